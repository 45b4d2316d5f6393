import Derived.Test.YtcokahccbjdeaaaDoorRs
import Derived.Test.YtcokahccbjdeaaaDoorStZ
import Derived.Test.YtcokahccbjdeaaaDoorBts
import Derived.Test.YtcokahccbjdeaaaDoorPa
namespace Go.Proofs.YtcokahccbjdeaaaDoor
open Go.RowKit

/-- A call's chip, what runs, its error: the kinds 6 to 9. -/
def opDev2 (c : ChipS) (run : Int) (o : OpS) : ChipS × Int × Int :=
  if o.kind = 6 then ((bootM c run).1, (bootM c run).2.1, 0) else if o.kind = 7 then confirmM c run else if o.kind = 8 then ((raiseM c).1, run, (raiseM c).2) else dropM c run
structure Fits2 (c : ChipS) (a : ChipS × Int × Int) (b : RefS × Int × Int) : Prop where
  err : a.2.2 = b.2.2
  rel : Rel a.1 b.1
  ops : ∃ n : Nat, n ≤ 64 ∧ a.1.ops = c.ops + n
  run : a.2.1 = b.2.1
  made : b.1.made = true
  runs : Runs b.2.1 b.1
theorem fitsOp2 {c : ChipS} {r : RefS} {run : Int} {o : OpS} (h : Rel c r) (hm : r.made = true) (hr : Runs run r) (hk : o.kind = 6 ∨ o.kind = 7 ∨ o.kind = 8 ∨ o.kind = 9) : Fits2 c (opDev2 c run o) (opRef2 r run o) := by
  obtain ⟨kd, n, ct, s, tn, wh⟩ := o
  simp only at hk
  have nm : ∀ {x : RefS} {P : Prop}, x.made = true → x.made = false → P := fun h1 h2 => by rw [h1] at h2; cases h2
  rcases hk with rfl | rfl | rfl | rfl
  · obtain ⟨⟨e1, e2, e3⟩, e4, _, _, e5⟩ := h.boot hm run
    refine ⟨e1, e2, e3, e4, e5, ⟨fun x => nm e5 x, fun x => ?_⟩⟩
    change r.boot.2 = 2 at x
    show r.boot.1.h.trial.size ≠ 0
    unfold RefS.boot at *
    by_cases h1 : r.h.trial.size ≠ 0 ∧ 0 < r.h.tries
    · rw [if_pos h1]; exact h1.1
    · rw [if_neg h1] at x; simp at x
  · obtain ⟨⟨e1, e2, e3⟩, e4, e5⟩ := h.confirm hm run hr.two
    refine ⟨e1, e2, e3, e4, e5, ⟨fun x => nm e5 x, fun x => ?_⟩⟩
    change (r.confirm run).2.1 = 2 at x
    show (r.confirm run).1.h.trial.size ≠ 0
    unfold RefS.confirm at *
    by_cases h1 : run ≠ 2
    · rw [if_pos h1] at x ⊢; exact hr.two x
    · rw [if_neg h1] at x; simp at x
  · obtain ⟨⟨e1, e2, e3⟩, e5⟩ := h.raise hm
    refine ⟨e1, e2, e3, rfl, e5, ⟨fun x => nm e5 x, fun x => ?_⟩⟩
    change run = 2 at x
    show r.raise.1.h.trial.size ≠ 0
    have := hr.two x
    unfold RefS.raise
    rw [if_pos this]; exact this
  · obtain ⟨⟨e1, e2, e3⟩, e4, e5⟩ := h.drop hm run
    refine ⟨e1, e2, e3, e4, e5, ⟨fun x => nm e5 x, fun x => ?_⟩⟩
    change (r.drop run).2.1 = 2 at x
    show (r.drop run).1.h.trial.size ≠ 0
    unfold RefS.drop at *
    by_cases h1 : r.h.trial.size = 0 ∧ r.h.size = 0
    · rw [if_pos h1] at x ⊢; exact hr.two x
    · rw [if_neg h1] at x
      simp only at x
      split at x
      · omega
      · rename_i hn; exact absurd x hn
/-- The chip and the device are written into. -/
theorem DeskW.chip3 {B : Nat} {w w' : World} {k b g m q : Nat} {c c' : ChipS} {d : Option Nat} {run : Int} {r : RefS} (D : DeskW B w k b g m c d run r) (hc : ChipAt w' b g c') (ho : Only (fun x => x = b ∨ x = g ∨ x = q) w w') (nk : k ≠ q) (nm : m ≠ q) (q0 : q ≠ 0) : DeskW B w' k b g m c' d run r := by
  refine ⟨ho.heap D.hk ?_, ⟨hc, D.dv.turns.only ho ?_, D.dv.b0, D.dv.g0⟩, ho.heap D.hm ?_, D.Bk, D.Bb, D.Bg, D.Bm, D.B1⟩
  · rintro (e | e | e)
    · exact ne_of_heap D.hk D.dv.chip.hb (by decide) e
    · exact ne_of_heap D.hk D.dv.chip.hg (by decide) e
    · exact nk e
  · rintro (e | e | e)
    · exact D.dv.b0 e.symm
    · exact D.dv.g0 e.symm
    · exact q0 e.symm
  · rintro (e | e | e)
    · exact ne_of_heap D.hm D.dv.chip.hb (by decide) e
    · exact ne_of_heap D.hm D.dv.chip.hg (by decide) e
    · exact nm e
theorem DeskW.fr3 {B : Nat} {w w' : World} {k b g m q : Nat} {c : ChipS} {d : Option Nat} {run : Int} {r : RefS} {x : Array Value} (D : DeskW B w k b g m c d run r) (ho : Only (fun x => x = b ∨ x = g ∨ x = q) w w') (hq : w.heap[q]? = some (.cells x 76 (0, 0))) (Bq : B ≤ q) : Fr B w w' :=
  ⟨ho.below D.size (fun x hx => by rcases hx with e | e | e; exact e ▸ D.Bb; exact e ▸ D.Bg; exact e ▸ Bq), fun _ _ e => ho.heap e (fun hx => by rcases hx with p | p | p; exact ne_of_heap e D.dv.chip.hb (by decide) p; exact ne_of_heap e D.dv.chip.hg (by decide) p; exact ne_of_heap e hq (by decide) p)⟩
theorem DeskW.chip {B : Nat} {w w' : World} {k b g m : Nat} {c c' : ChipS} {d : Option Nat} {run : Int} {r : RefS} (D : DeskW B w k b g m c d run r) (hc : ChipAt w' b g c') (ho : Only (fun x => x = b ∨ x = g) w w') : DeskW B w' k b g m c' d run r ∧ Fr B w w' := by
  refine ⟨⟨ho.heap D.hk ?_, D.dv.only hc ho, ho.heap D.hm ?_, D.Bk, D.Bb, D.Bg, D.Bm, D.B1⟩, ⟨ho.below D.size (fun x hx => by rcases hx with e | e; exact e ▸ D.Bb; exact e ▸ D.Bg), fun _ _ e => ho.heap e (fun hx => by rcases hx with p | p; exact ne_of_heap e D.dv.chip.hb (by decide) p; exact ne_of_heap e D.dv.chip.hg (by decide) p)⟩⟩
  · rintro (e | e)
    · exact ne_of_heap D.hk D.dv.chip.hb (by decide) e
    · exact ne_of_heap D.hk D.dv.chip.hg (by decide) e
  · rintro (e | e)
    · exact ne_of_heap D.hm D.dv.chip.hb (by decide) e
    · exact ne_of_heap D.hm D.dv.chip.hg (by decide) e
theorem DeskW.set {B : Nat} {w w' : World} {k b g m m' : Nat} {c : ChipS} {d d' : Option Nat} {run run' : Int} {r r' : RefS} (D : DeskW B w k b g m c d run r) (hk : w'.heap[k]? = some (.cells (deskC b d' run' m') 86 (0, 0)))
    (ho : Only (fun x => x = k) w w') (hm : w'.heap[m']? = some (.cells r'.cs 83 (0, 0))) (hBm : B ≤ m') (hd : ∀ q, d' = some q → w'.heap[q]? = some (.cells (devC b run') 76 (0, 0)) ∧ B ≤ q) : Desk B w' k b g m' c d' run' r' := by
  have hc : ChipAt w' b g c := by
    have h := D.dv.chip
    exact ⟨ho.heap h.hb (ne_of_heap h.hb D.hk (by decide)), ho.heap h.hg (ne_of_heap h.hg D.hk (by decide)), h.len, h.ops0, h.left1, h.left0, h.tn⟩
  have ht : TurnsAt w' := D.dv.turns.only ho (fun e => by have := D.Bk; have := D.B1; omega)
  exact ⟨hk, ⟨hc, ht, D.dv.b0, D.dv.g0⟩, hm, hd, D.Bk, D.Bb, D.Bg, hBm, D.B1⟩
theorem DeskW.fin1 {B : Nat} {w wS : World} {k b g m : Nat} {c : ChipS} {d d' : Option Nat} {run run' : Int} {r r' : RefS} (D : DeskW B w k b g m c d run r) (A' : Obj) (hon : Only (fun x => x = k) w wS)
    (hk : wS.heap[k]? = some (.cells (deskC b d' run' w.heap.size) 86 (0, 0))) (hs : wS.heap.size = w.heap.size) (hA : A' = .cells r'.cs 83 (0, 0)) (hd : ∀ q, d' = some q → w.heap[q]? = some (.cells (devC b run') 76 (0, 0)) ∧ B ≤ q) :
    Desk B (wS.alloc A') k b g w.heap.size c d' run' r' ∧ Fr B w (wS.alloc A') := by
  have hon2 := hon.alloc A'
  have hnew : (wS.alloc A').heap[w.heap.size]? = some A' := by rw [← hs]; exact heap_alloc_new wS A'
  exact ⟨D.set (alloc_heap hk A') hon2 (by rw [hnew, hA]) D.size (fun q hq => ⟨hon2.heap (hd q hq).1 (ne_of_heap (hd q hq).1 D.hk (by decide)), (hd q hq).2⟩), Fr.k hon2 D.hk D.Bk D.size⟩
set_option maxRecDepth 100000 in
set_option maxHeartbeats 2000000 in
theorem spent_noW (w : World) (B k b g m : Nat) (c : ChipS) (d : Option Nat) (run : Int) (r : RefS) (n : Int) (o : OpS) (D : DeskW B w k b g m c d run r) (hdead : c.dead = false) (h1 : n ≤ c.ops) (h2 : c.ops ≤ n + 64) :
    Calls Tryd.prog 41 #[.pointer (some ⟨k, 0, none⟩), .int .i64 n, o.v, .bool false] w fun e w' => e = .returned (.bool true) ∧ Below w.heap.size w w' := by
  have HO := fun wx (hb : Below w.heap.size w wx) => ops_any wx b g c (D.dv.chip.below hb)
  have HD := fun wx (hb : Below w.heap.size w wx) => dead_any wx b g c (D.dv.chip.below hb)
  rw [hdead] at HD
  have hb1 : ∀ x, Below w.heap.size w (w.alloc x) := fun x => (Below.refl _ _).alloc (Nat.le_refl _) x
  have Q := fun x => desk_cells (alloc_heap D.hk x)
  have q0 : ∀ x, (w.alloc x).cell? ⟨k, 0, none⟩ = some (.pointer (some ⟨b, 0, none⟩)) := fun x => (Q x).1
  obtain ⟨kd, nn, ct, s, tn, wh⟩ := o
  simp only [OpS.v]
  generalize c.ops = p at *
  clear Q D
  go_enter Tryd.func41, Tryd.ntmps41
  go_wp2_with (first
    | (go_at_call 38; refine (HO _ (hb1 _)).mono ?_; rintro en w2 ⟨rfl, rfl⟩)
    | (go_at_call 42; refine (HD _ (hb1 _)).mono ?_; rintro en w2 ⟨rfl, rfl⟩))
  go_ret
  exact ⟨rfl, hb1 _⟩
end Go.Proofs.YtcokahccbjdeaaaDoor

namespace Go.Proofs.YtcokahccbjdeaaaDoor
open Go.RowKit

theorem Left.from {w w1 w2 : World} {q b g : Nat} {c' : ChipS} {run : Int} (hb : Below w.heap.size w w1) (h : Left w1 w2 q b g c' run) : Left w w2 q b g c' run :=
  ⟨h.chip, h.dev, (Only.of_below _ hb).trans h.only⟩
theorem Left.drew {w w' : World} {q b g : Nat} {c' : ChipS} {run : Int} (h : Left w w' q b g c' run) : Left w w'.drew q b g c' run :=
  ⟨⟨h.chip.hb, h.chip.hg, h.chip.len, h.chip.ops0, h.chip.left1, h.chip.left0, h.chip.tn⟩, h.dev, h.only.drew⟩
theorem jumpC_cells {w : World} {g : Nat} {t : Bool} {a b : Int} {s : ByteArray} (H : w.heap[g]? = some (.cells #[.bool t, .int .i64 a, .int .i64 b, .string s] 68 (0, 0))) :
    w.cell? ⟨g, 0, none⟩ = some (.bool t) ∧ w.cell? ⟨g, 1, none⟩ = some (.int .i64 a) ∧ w.cell? ⟨g, 2, none⟩ = some (.int .i64 b) ∧ w.cell? ⟨g, 3, none⟩ = some (.string s) ∧ (∀ o, w.frozen? ⟨g, o, none⟩ = false) := by
  refine ⟨?_, ?_, ?_, ?_, fun o => free_of_heap H⟩ <;> (rw [cell_of_heap H]; rfl)
set_option maxRecDepth 100000 in
set_option maxHeartbeats 8000000 in
theorem calls_confirm (w : World) (B k b g m : Nat) (c : ChipS) (d : Option Nat) (run : Int) (r : RefS) (n ct : Int) (s tn : ByteArray) (wh : Bool) (D : Desk B w k b g m c d run r) (hops : c.ops < 4611686018427370000) (q : Nat) (hq : d = some q) (hok : ∀ x, loadM c.cells = some x → x.ok) :
    Calls Tryd.prog 40 #[.pointer (some ⟨k, 0, none⟩), OpS.v ⟨7, n, ct, s, tn, wh⟩] w fun e w' => e = .returned (.tuple #[.int .i64 (confirmM c run).2.2, .agg noJump]) ∧ Left w w' q b g (confirmM c run).1 (confirmM c run).2.1 := by
  have hb3 : ∀ x y z, Below w.heap.size w (((w.alloc x).alloc y).alloc z) := fun x y z => (((Below.refl _ _).alloc (Nat.le_refl _) _).alloc (by simp) _).alloc (by simp; omega) _
  obtain ⟨lk, lb, lg, lm⟩ := D.lt
  have lq : q < w.heap.size := (Array.getElem?_eq_some_iff.1 (D.hd q hq).1).1
  have nb1 : ¬ (w.heap.size + 1 = b ∨ w.heap.size + 1 = g ∨ w.heap.size + 1 = q) := by omega
  have nb2 : ¬ (w.heap.size + 2 = b ∨ w.heap.size + 2 = g ∨ w.heap.size + 2 = q) := by omega
  have HC := fun wx (hb : Below w.heap.size w wx) => confirm_any wx q b g c run hops (D.dv.below hb) (below_heap hb (D.hd q hq).1) hok
  generalize confirmM c run = out at *
  obtain ⟨c', r', e'⟩ := out
  simp only [OpS.v] at *
  have hk3 : ∀ x y z, (((w.alloc x).alloc y).alloc z).heap[k]? = some (.cells (deskC b d run m) 86 (0, 0)) := fun x y z => alloc_heap (alloc_heap (alloc_heap D.hk x) y) z
  clear D
  subst hq
  go_enter Tryd.func40, Tryd.ntmps40
  have HC' := fun x y z => HC (((w.alloc x).alloc y).alloc z) (hb3 x y z)
  have p1 : ∀ x y z, (((w.alloc x).alloc y).alloc z).cell? ⟨k, 1, none⟩ = some (.pointer (some ⟨q, 0, none⟩)) := fun x y z => (desk_cells (hk3 x y z)).2.1
  go_wp2_with (go_at_call 13; refine (HC' _ _ _).mono ?_; rintro en w2 ⟨rfl, hL2⟩; have hA := hL2.only.heap (old1' w _ _ _) nb1; have hB := hL2.only.heap (heap_alloc3_new w _ _ _) nb2; have hA2 : w2.heap[w.heap.size + 1]? = some (.cells noJump 68 (0, 0)) := hA; have hB2 : w2.heap[w.heap.size + 2]? = some (.cells noJump 68 (0, 0)) := hB; have hL := Left.from (hb3 _ _ _) hL2; clear hA hB; obtain ⟨x0, x1, x2, x3, xf⟩ := jump_cells hA2; obtain ⟨y0, y1, y2, y3, yf⟩ := jump_cells hB2)
  go_region
  all_goals go_wp2
  all_goals refine bodyPost_ret (v := .tuple #[.int .i64 e', .agg noJump]) (by simp [results, Tryd.results40, go_sem, noJump, x0, x1, x2, x3]) rfl ⟨rfl, ?_⟩
  all_goals exact (hL.jump (by omega) lb lg lq _ _ _ _).drew
set_option maxRecDepth 100000 in
set_option maxHeartbeats 8000000 in
theorem calls_raise (w : World) (B k b g m : Nat) (c : ChipS) (d : Option Nat) (run : Int) (r : RefS) (n ct : Int) (s tn : ByteArray) (wh : Bool) (D : Desk B w k b g m c d run r) (hops : c.ops < 4611686018427370000) (q : Nat) (hq : d = some q) (hok : ∀ x, loadM c.cells = some x → x.ok) :
    Calls Tryd.prog 40 #[.pointer (some ⟨k, 0, none⟩), OpS.v ⟨8, n, ct, s, tn, wh⟩] w fun e w' => e = .returned (.tuple #[.int .i64 (raiseM c).2, .agg noJump]) ∧ Left w w' q b g (raiseM c).1 run := by
  have hb3 : ∀ x y z, Below w.heap.size w (((w.alloc x).alloc y).alloc z) := fun x y z => (((Below.refl _ _).alloc (Nat.le_refl _) _).alloc (by simp) _).alloc (by simp; omega) _
  obtain ⟨lk, lb, lg, lm⟩ := D.lt
  have lq : q < w.heap.size := (Array.getElem?_eq_some_iff.1 (D.hd q hq).1).1
  have nb1 : ¬ (w.heap.size + 1 = b ∨ w.heap.size + 1 = g ∨ w.heap.size + 1 = q) := by omega
  have nb2 : ¬ (w.heap.size + 2 = b ∨ w.heap.size + 2 = g ∨ w.heap.size + 2 = q) := by omega
  have HC := fun wx (hb : Below w.heap.size w wx) => raise_any wx q b g c run hops (D.dv.below hb) (below_heap hb (D.hd q hq).1) hok
  generalize raiseM c = out at *
  obtain ⟨c', e'⟩ := out
  simp only [OpS.v] at *
  have hk3 : ∀ x y z, (((w.alloc x).alloc y).alloc z).heap[k]? = some (.cells (deskC b d run m) 86 (0, 0)) := fun x y z => alloc_heap (alloc_heap (alloc_heap D.hk x) y) z
  clear D
  subst hq
  go_enter Tryd.func40, Tryd.ntmps40
  have HC' := fun x y z => HC (((w.alloc x).alloc y).alloc z) (hb3 x y z)
  have p1 : ∀ x y z, (((w.alloc x).alloc y).alloc z).cell? ⟨k, 1, none⟩ = some (.pointer (some ⟨q, 0, none⟩)) := fun x y z => (desk_cells (hk3 x y z)).2.1
  go_wp2_with (go_at_call 72; refine (HC' _ _ _).mono ?_; rintro en w2 ⟨rfl, hL2⟩; have hA := hL2.only.heap (old1' w _ _ _) nb1; have hB := hL2.only.heap (heap_alloc3_new w _ _ _) nb2; have hA2 : w2.heap[w.heap.size + 1]? = some (.cells noJump 68 (0, 0)) := hA; have hB2 : w2.heap[w.heap.size + 2]? = some (.cells noJump 68 (0, 0)) := hB; have hL := Left.from (hb3 _ _ _) hL2; clear hA hB; obtain ⟨x0, x1, x2, x3, xf⟩ := jump_cells hA2; obtain ⟨y0, y1, y2, y3, yf⟩ := jump_cells hB2)
  go_region
  all_goals go_wp2
  all_goals refine bodyPost_ret (v := .tuple #[.int .i64 e', .agg noJump]) (by simp [results, Tryd.results40, go_sem, noJump, x0, x1, x2, x3]) rfl ⟨rfl, ?_⟩
  all_goals exact (hL.jump (by omega) lb lg lq _ _ _ _).drew
set_option maxRecDepth 100000 in
set_option maxHeartbeats 8000000 in
theorem calls_drop (w : World) (B k b g m : Nat) (c : ChipS) (d : Option Nat) (run : Int) (r : RefS) (n ct : Int) (s tn : ByteArray) (wh : Bool) (D : Desk B w k b g m c d run r) (hops : c.ops < 4611686018427370000) (q : Nat) (hq : d = some q) (hok : ∀ x, loadM c.cells = some x → x.ok) :
    Calls Tryd.prog 40 #[.pointer (some ⟨k, 0, none⟩), OpS.v ⟨9, n, ct, s, tn, wh⟩] w fun e w' => e = .returned (.tuple #[.int .i64 (dropM c run).2.2, .agg noJump]) ∧ Left w w' q b g (dropM c run).1 (dropM c run).2.1 := by
  have hb3 : ∀ x y z, Below w.heap.size w (((w.alloc x).alloc y).alloc z) := fun x y z => (((Below.refl _ _).alloc (Nat.le_refl _) _).alloc (by simp) _).alloc (by simp; omega) _
  obtain ⟨lk, lb, lg, lm⟩ := D.lt
  have lq : q < w.heap.size := (Array.getElem?_eq_some_iff.1 (D.hd q hq).1).1
  have nb1 : ¬ (w.heap.size + 1 = b ∨ w.heap.size + 1 = g ∨ w.heap.size + 1 = q) := by omega
  have nb2 : ¬ (w.heap.size + 2 = b ∨ w.heap.size + 2 = g ∨ w.heap.size + 2 = q) := by omega
  have HC := fun wx (hb : Below w.heap.size w wx) => drop_any wx q b g c run hops (D.dv.below hb) (below_heap hb (D.hd q hq).1) hok
  generalize dropM c run = out at *
  obtain ⟨c', r', e'⟩ := out
  simp only [OpS.v] at *
  have hk3 : ∀ x y z, (((w.alloc x).alloc y).alloc z).heap[k]? = some (.cells (deskC b d run m) 86 (0, 0)) := fun x y z => alloc_heap (alloc_heap (alloc_heap D.hk x) y) z
  clear D
  subst hq
  go_enter Tryd.func40, Tryd.ntmps40
  have HC' := fun x y z => HC (((w.alloc x).alloc y).alloc z) (hb3 x y z)
  have p1 : ∀ x y z, (((w.alloc x).alloc y).alloc z).cell? ⟨k, 1, none⟩ = some (.pointer (some ⟨q, 0, none⟩)) := fun x y z => (desk_cells (hk3 x y z)).2.1
  go_wp2_with (go_at_call 73; refine (HC' _ _ _).mono ?_; rintro en w2 ⟨rfl, hL2⟩; have hA := hL2.only.heap (old1' w _ _ _) nb1; have hB := hL2.only.heap (heap_alloc3_new w _ _ _) nb2; have hA2 : w2.heap[w.heap.size + 1]? = some (.cells noJump 68 (0, 0)) := hA; have hB2 : w2.heap[w.heap.size + 2]? = some (.cells noJump 68 (0, 0)) := hB; have hL := Left.from (hb3 _ _ _) hL2; clear hA hB; obtain ⟨x0, x1, x2, x3, xf⟩ := jump_cells hA2; obtain ⟨y0, y1, y2, y3, yf⟩ := jump_cells hB2)
  go_region
  all_goals go_wp2
  all_goals refine bodyPost_ret (v := .tuple #[.int .i64 e', .agg noJump]) (by simp [results, Tryd.results40, go_sem, noJump, x0, x1, x2, x3]) rfl ⟨rfl, ?_⟩
  all_goals exact (hL.jump (by omega) lb lg lq _ _ _ _).drew
set_option maxRecDepth 100000 in
set_option maxHeartbeats 8000000 in
theorem calls_boot (w : World) (B k b g m : Nat) (c : ChipS) (d : Option Nat) (run : Int) (r : RefS) (n ct : Int) (s tn : ByteArray) (wh : Bool) (D : Desk B w k b g m c d run r) (hops : c.ops < 4611686018427370000) (q : Nat) (hq : d = some q) (hok : ∀ x, loadM c.cells = some x → x.ok) :
    Calls Tryd.prog 40 #[.pointer (some ⟨k, 0, none⟩), OpS.v ⟨6, n, ct, s, tn, wh⟩] w fun e w' => e = .returned (.tuple #[.int .i64 0, .agg (jumpV (bootM c run).2.2.1 (bootM c run).2.2.2)]) ∧ Left w w' q b g (bootM c run).1 (bootM c run).2.1 := by
  have hb3 : ∀ x y z, Below w.heap.size w (((w.alloc x).alloc y).alloc z) := fun x y z => (((Below.refl _ _).alloc (Nat.le_refl _) _).alloc (by simp) _).alloc (by simp; omega) _
  obtain ⟨lk, lb, lg, lm⟩ := D.lt
  have lq : q < w.heap.size := (Array.getElem?_eq_some_iff.1 (D.hd q hq).1).1
  have nb1 : ¬ (w.heap.size + 1 = b ∨ w.heap.size + 1 = g ∨ w.heap.size + 1 = q) := by omega
  have nb2 : ¬ (w.heap.size + 2 = b ∨ w.heap.size + 2 = g ∨ w.heap.size + 2 = q) := by omega
  have HC := fun wx (hb : Below w.heap.size w wx) => boot_any wx q b g c run hops (D.dv.below hb) (below_heap hb (D.hd q hq).1) hok
  generalize bootM c run = out at *
  obtain ⟨c', r', jt, js⟩ := out
  simp only [jumpV] at *
  generalize loadedB js = lo at *
  obtain ⟨ja, jb, jc⟩ := lo
  simp only [OpS.v] at *
  have hk3 : ∀ x y z, (((w.alloc x).alloc y).alloc z).heap[k]? = some (.cells (deskC b d run m) 86 (0, 0)) := fun x y z => alloc_heap (alloc_heap (alloc_heap D.hk x) y) z
  clear D
  subst hq
  go_enter Tryd.func40, Tryd.ntmps40
  have HC' := fun x y z => HC (((w.alloc x).alloc y).alloc z) (hb3 x y z)
  have p1 : ∀ x y z, (((w.alloc x).alloc y).alloc z).cell? ⟨k, 1, none⟩ = some (.pointer (some ⟨q, 0, none⟩)) := fun x y z => (desk_cells (hk3 x y z)).2.1
  go_wp2_with (go_at_call 26; refine (HC' _ _ _).mono ?_; rintro en w2 ⟨rfl, hL2⟩; have hA := hL2.only.heap (old1' w _ _ _) nb1; have hB := hL2.only.heap (heap_alloc3_new w _ _ _) nb2; have hA2 : w2.heap[w.heap.size + 1]? = some (.cells noJump 68 (0, 0)) := hA; have hB2 : w2.heap[w.heap.size + 2]? = some (.cells noJump 68 (0, 0)) := hB; have hL := Left.from (hb3 _ _ _) hL2; clear hA hB; obtain ⟨x0, x1, x2, x3, xf⟩ := jump_cells hA2; obtain ⟨y0, y1, y2, y3, yf⟩ := jump_cells hB2)
  have hC2 := hL.jump (p := w.heap.size + 2) (by omega) lb lg lq (.bool jt) (.int .i64 ja) (.int .i64 jb) (.string jc)
  have hB4 : ((((w2.setCell ⟨w.heap.size + 2, 0, none⟩ (.bool jt)).setCell ⟨w.heap.size + 2, 1, none⟩ (.int .i64 ja)).setCell ⟨w.heap.size + 2, 2, none⟩ (.int .i64 jb)).setCell ⟨w.heap.size + 2, 3, none⟩ (.string jc)).heap[w.heap.size + 2]? = some (.cells #[.bool jt, .int .i64 ja, .int .i64 jb, .string jc] 68 (0, 0)) := by
    rw [heap_setCell_at _ _ _ _ _ _ _ (heap_setCell_at _ _ _ _ _ _ _ (heap_setCell_at _ _ _ _ _ _ _ (heap_setCell_at _ _ _ _ _ _ _ hB2)))]; rfl
  have hA4 : ((((w2.setCell ⟨w.heap.size + 2, 0, none⟩ (.bool jt)).setCell ⟨w.heap.size + 2, 1, none⟩ (.int .i64 ja)).setCell ⟨w.heap.size + 2, 2, none⟩ (.int .i64 jb)).setCell ⟨w.heap.size + 2, 3, none⟩ (.string jc)).heap[w.heap.size + 1]? = some (.cells noJump 68 (0, 0)) := by
    have n : w.heap.size + 1 ≠ w.heap.size + 2 := by omega
    rw [heap_setCell_ne _ _ _ _ _ n, heap_setCell_ne _ _ _ _ _ n, heap_setCell_ne _ _ _ _ _ n, heap_setCell_ne _ _ _ _ _ n]; exact hA2
  clear x0 x1 x2 x3 xf y0 y1 y2 y3 yf
  generalize (((w2.setCell ⟨w.heap.size + 2, 0, none⟩ (.bool jt)).setCell ⟨w.heap.size + 2, 1, none⟩ (.int .i64 ja)).setCell ⟨w.heap.size + 2, 2, none⟩ (.int .i64 jb)).setCell ⟨w.heap.size + 2, 3, none⟩ (.string jc) = wz at *
  obtain ⟨x0, x1, x2, x3, xf⟩ := jump_cells hA4
  obtain ⟨y0, y1, y2, y3, yf⟩ := jumpC_cells hB4
  go_region
  all_goals go_wp2
  all_goals refine bodyPost_ret (v := .tuple #[.int .i64 0, .agg #[.bool jt, .int .i64 ja, .int .i64 jb, .string jc]]) (by simp [results, Tryd.results40, go_sem, x0, x1, x2, x3]) rfl ⟨rfl, ?_⟩
  all_goals exact (hC2.jump (by omega) lb lg lq _ _ _ _).drew
end Go.Proofs.YtcokahccbjdeaaaDoor

namespace Go.Proofs.YtcokahccbjdeaaaDoor
open Go.RowKit

set_option maxRecDepth 100000 in
set_option maxHeartbeats 8000000 in
theorem step_confirm (w : World) (B N k b g m : Nat) (c : ChipS) (run : Int) (r : RefS) (n ct : Int) (s tn : ByteArray) (wh : Bool) (q : Nat) (I : Inv B N w k b g m c (some q) run r) (hN : N < 4611686018427360000) :
    Calls Tryd.prog 16 #[.pointer (some ⟨k, 0, none⟩), OpS.v ⟨7, n, ct, s, tn, wh⟩, .bool false] w fun e w' => e = .returned (.bool true) ∧ Good B (N + 64) w' k ∧ Fr B w w' := by
  have D := I.D
  have hops := I.ops
  have hmade := I.dm rfl
  obtain ⟨F1, F2, ⟨n64, hn64, F3⟩, F4, F5, F6⟩ := fitsOp2 (o := ⟨7, n, ct, s, tn, wh⟩) I.rel hmade I.runs (by simp)
  have hgb : (opRef2 r run ⟨7, n, ct, s, tn, wh⟩).1.h.got.size ≤ 1048576 := by
    obtain ⟨_, hk⟩ := F2.yes F5
    have := hk.behind; omega
  have hrk := (I.rel.yes hmade).2
  have himg := hrk.img
  have hbeh := hrk.behind
  have htr := hrk.tr
  have HSU := fun wx (D : Desk B wx k b g m c (some q) run r) => sure_any wx B k b g m c (some q) run r D
  have HAF := fun wx (D : Desk B wx k b g m c (some q) run r) => after_more wx B k b g m c (some q) run r ⟨7, n, ct, s, tn, wh⟩ D (by simp) (by omega) (by omega) (by omega)
  have HOP := fun wx (D : Desk B wx k b g m c (some q) run r) => ops_any wx b g c D.dv.chip
  have HAR := fun wx => armed_no wx k ⟨7, n, ct, s, tn, wh⟩
  have HCA : ∀ wx, Desk B wx k b g m c (some q) run r → Calls Tryd.prog 40 #[.pointer (some ⟨k, 0, none⟩), OpS.v ⟨7, n, ct, s, tn, wh⟩] wx fun e w' => e = .returned (.tuple #[.int .i64 (opDev2 c run ⟨7, n, ct, s, tn, wh⟩).2.2, .agg noJump]) ∧ Left wx w' q b g (opDev2 c run ⟨7, n, ct, s, tn, wh⟩).1 (opDev2 c run ⟨7, n, ct, s, tn, wh⟩).2.1 := fun wx D => calls_confirm wx B k b g m c (some q) run r n ct s tn wh D (by omega) q rfl I.rel.hok
  have L' := F2.live
  generalize opRef2 r run ⟨7, n, ct, s, tn, wh⟩ = out at *
  generalize opDev2 c run ⟨7, n, ct, s, tn, wh⟩ = od at *
  obtain ⟨c', rd', e1⟩ := od
  obtain ⟨r', rn', e'⟩ := out
  simp only at F1 F2 F3 F4 F5 F6 HAF HCA hgb L'
  have hF1 := F1.symm
  have hF4 := F4.symm
  clear F1 F4
  subst hF1 hF4
  have HSP := fun wx (D : DeskW B wx k b g m c' (some q) run r) => spent_noW wx B k b g m c' (some q) run r c.ops ⟨7, n, ct, s, tn, wh⟩ D L'.dead (by omega) (by omega)
  have HDE := fun wx (D : DeskW B wx k b g m c' (some q) run r) => dead_any wx b g c' D.dv.chip
  rw [L'.dead] at HDE
  have HRE : ∀ wx, DeskW B wx k b g m c' (some q) run r → Calls Tryd.prog 43 #[.pointer (some ⟨b, 0, none⟩)] wx fun e w' => e = .returned (.tuple #[]) ∧ DeskW B w' k b g m c' (some q) run r ∧ Only (fun x => x = b ∨ x = g) wx w' ∧ Fr B wx w' := by
    intro wx D
    refine (restore_any wx b g c' D.dv.chip).mono ?_
    rintro e w' ⟨rfl, h1, h2, _⟩
    rw [L'.restore] at h1
    exact ⟨rfl, (D.chip h1 h2).1, h2, (D.chip h1 h2).2⟩
  have hop2 : c'.ops ≤ ((N + 64 : Nat) : Int) := by omega
  have hFin : ∀ w' m', Desk B w' k b g m' c' (some q) rn' r' → Good B (N + 64) w' k := fun w' m' D' => ⟨b, g, m', c', some q, rn', r', D', F2, (fun _ => F5), hop2, hgb, F6⟩
  have hD1 : ∀ x, Desk B (w.alloc x) k b g m c (some q) run r := fun x => D.below ((Below.refl _ _).alloc (Nat.le_refl _) x)
  have hE1 : ∀ x, Fr B w (w.alloc x) := fun x => (Fr.refl _ _).alloc D.size x
  have hO1 := heap_alloc_new w (.cells (OpS.cs ⟨7, n, ct, s, tn, wh⟩) 50)
  have hbl : b < w.heap.size := D.lt.2.1
  have hgl : g < w.heap.size := D.lt.2.2.1
  have hql : q < w.heap.size := (Array.getElem?_eq_some_iff.1 (D.hd q rfl).1).1
  have Bq : B ≤ q := (D.hd q rfl).2
  have nkq : k ≠ q := fun e => (D.ne.2.2.2.2.2 q rfl).2.2.1 e.symm
  have nmq : m ≠ q := fun e => (D.ne.2.2.2.2.2 q rfl).2.2.2 e.symm
  have nbq : ¬ (q = b ∨ q = g) := fun e => by rcases e with e | e; exact (D.ne.2.2.2.2.2 q rfl).1 e; exact (D.ne.2.2.2.2.2 q rfl).2.1 e
  have q0' : q ≠ 0 := by have := D.B1; omega
  have nbg : ¬ (w.heap.size = b ∨ w.heap.size = g) := by omega
  have nbg3 : ¬ (w.heap.size = b ∨ w.heap.size = g ∨ w.heap.size = q) := by omega
  have q1 : ∀ x, (w.alloc x).cell? ⟨k, 1, none⟩ = some (.pointer (some ⟨q, 0, none⟩)) := fun x => (desk_cells (hD1 x).hk).2.1
  obtain ⟨md', gd', fl', tr', ts', sz', gt'⟩ := r'
  simp only [OpS.v, OpS.cs, RefS.v, noJump] at HAF HAR HCA HSP hO1 ⊢
  clear I D hN hgb F2 F3 F5 F6 hop2 L' hn64 hrk himg hbeh htr hmade
  go_enter Tryd.func16, Tryd.ntmps16
  go_wp2_with (first
    | (go_at_call 36; refine (HSU _ (hD1 _)).mono ?_; rintro en w1 ⟨rfl, rfl⟩)
    | (go_at_call 37; refine (HAF _ (hD1 _)).mono ?_; rintro en w1 ⟨rfl, hb1⟩; have D2 : ∀ x, Desk B (w1.alloc x) k b g m c (some q) run r := fun x => ((hD1 _).below hb1).below ((Below.refl _ _).alloc (Nat.le_refl _) x); have E2 : ∀ x, Fr B w (w1.alloc x) := fun x => ((hE1 _).trans (Fr.of hb1 (hD1 _).size)).alloc ((hD1 _).below hb1).size x; have O2 := fun x => alloc_heap (below_heap hb1 hO1) x; have H2 := heap_alloc_new w1 (.cells (RefS.cs ⟨md', gd', fl', tr', ts', sz', gt'⟩) 83); have hHlt : w.heap.size < w1.heap.size := Nat.lt_of_lt_of_le (by simp) hb1.size; have u0 : ∀ x, (w1.alloc x).cell? ⟨k, 0, none⟩ = some (.pointer (some ⟨b, 0, none⟩)) := fun x => (desk_cells (D2 x).hk).1; have o0 : ∀ x, (w1.alloc x).cell? ⟨w.heap.size, 0, none⟩ = some (.int .i64 7) := fun x => (op_cells (o := ⟨7, n, ct, s, tn, wh⟩) (O2 x)).1; have o1 : ∀ x, (w1.alloc x).cell? ⟨w.heap.size, 1, none⟩ = some (.int .i64 n) := fun x => (op_cells (o := ⟨7, n, ct, s, tn, wh⟩) (O2 x)).2.1; have o2 : ∀ x, (w1.alloc x).cell? ⟨w.heap.size, 2, none⟩ = some (.int .i64 ct) := fun x => (op_cells (o := ⟨7, n, ct, s, tn, wh⟩) (O2 x)).2.2.1; have o3 : ∀ x, (w1.alloc x).cell? ⟨w.heap.size, 3, none⟩ = some (.string s) := fun x => (op_cells (o := ⟨7, n, ct, s, tn, wh⟩) (O2 x)).2.2.2.1; have o4 : ∀ x, (w1.alloc x).cell? ⟨w.heap.size, 4, none⟩ = some (.string tn) := fun x => (op_cells (o := ⟨7, n, ct, s, tn, wh⟩) (O2 x)).2.2.2.2.1; have o5 : ∀ x, (w1.alloc x).cell? ⟨w.heap.size, 5, none⟩ = some (.bool wh) := fun x => (op_cells (o := ⟨7, n, ct, s, tn, wh⟩) (O2 x)).2.2.2.2.2.1)
    | (go_at_call 38; refine (HOP _ (D2 _)).mono ?_; rintro en w2 ⟨rfl, rfl⟩)
    | (go_at_call 39; refine (HAR _).mono ?_; rintro en w3 ⟨rfl, hb3⟩; have D3 := (D2 _).below hb3; have E3 := (E2 _).trans (Fr.of hb3 (D2 _).size); have O3 := below_heap hb3 (O2 _); have H3 := below_heap hb3 H2; obtain ⟨v0, v1, v2, v3, v4, v5, vf⟩ := op_cells (o := ⟨7, n, ct, s, tn, wh⟩) O3; simp only at v0 v1 v2 v3 v4 v5)
    | (go_at_call 40; refine (HCA _ D3).mono ?_; rintro en w4 ⟨rfl, hL4⟩; have D4 := D3.weak.chip3 hL4.chip hL4.only nkq nmq q0'; have E4 := E3.trans (D3.weak.fr3 hL4.only (D3.hd q rfl).1 Bq); have O4 := hL4.only.heap O3 nbg3; have H4 := hL4.only.heap H3 (by omega); have Q4 := hL4.dev; have D5 : ∀ x, DeskW B (w4.alloc x) k b g m c' (some q) run r := fun x => D4.below ((Below.refl _ _).alloc (Nat.le_refl _) x); have E5 : ∀ x, Fr B w (w4.alloc x) := fun x => E4.alloc D4.size x; have x0 : ∀ x, (w4.alloc x).cell? ⟨w.heap.size, 0, none⟩ = some (.int .i64 7) := fun x => (op_cells (o := ⟨7, n, ct, s, tn, wh⟩) (alloc_heap O4 x)).1; have x1 : ∀ x, (w4.alloc x).cell? ⟨w.heap.size, 1, none⟩ = some (.int .i64 n) := fun x => (op_cells (o := ⟨7, n, ct, s, tn, wh⟩) (alloc_heap O4 x)).2.1; have x2 : ∀ x, (w4.alloc x).cell? ⟨w.heap.size, 2, none⟩ = some (.int .i64 ct) := fun x => (op_cells (o := ⟨7, n, ct, s, tn, wh⟩) (alloc_heap O4 x)).2.2.1; have x3 : ∀ x, (w4.alloc x).cell? ⟨w.heap.size, 3, none⟩ = some (.string s) := fun x => (op_cells (o := ⟨7, n, ct, s, tn, wh⟩) (alloc_heap O4 x)).2.2.2.1; have x4 : ∀ x, (w4.alloc x).cell? ⟨w.heap.size, 4, none⟩ = some (.string tn) := fun x => (op_cells (o := ⟨7, n, ct, s, tn, wh⟩) (alloc_heap O4 x)).2.2.2.2.1; have x5 : ∀ x, (w4.alloc x).cell? ⟨w.heap.size, 5, none⟩ = some (.bool wh) := fun x => (op_cells (o := ⟨7, n, ct, s, tn, wh⟩) (alloc_heap O4 x)).2.2.2.2.2.1)
    | (go_at_call 41; refine (HSP _ (D5 _)).mono ?_; rintro en w6 ⟨rfl, hb6⟩; have D6 := (D5 _).below hb6; have E6 := (E5 _).trans (Fr.of hb6 (D5 _).size); have O6 := below_heap hb6 (alloc_heap O4 _); have H6 := below_heap hb6 (alloc_heap H4 _); have Q6 := below_heap hb6 (alloc_heap Q4 _); have y0 := (desk_cells D6.hk).1)
    | (go_at_call 42; refine (HDE _ D6).mono ?_; rintro en w7 ⟨rfl, rfl⟩))
  refine (HRE _ D6).mono ?_
  rintro en w8 ⟨rfl, D8, ho8, hF8⟩
  have E8 := E6.trans hF8
  have O8 := ho8.heap O6 nbg
  have H8 := ho8.heap H6 (by omega)
  have Q8 := ho8.heap Q6 nbq
  obtain ⟨a0, a1, a2, a3, af⟩ := desk_cells D8.hk
  obtain ⟨h0, h1, h2, h3, h4, h5, h6, hf⟩ := ref_cells H8
  have z0 := (op_cells (o := ⟨7, n, ct, s, tn, wh⟩) O8).1
  have kl := D8.lt.1
  have kn : ¬ k = w8.heap.size := by omega
  have kn2 : ¬ w8.heap.size = k := by omega
  have pl : ¬ w.heap.size = w8.heap.size := by (have t1 := (Array.getElem?_eq_some_iff.1 O8).1; omega)
  have A3 : ∀ x, (w8.alloc x).cell? ⟨k, 3, none⟩ = some (.slice (some ⟨m, 0, none⟩) 1 1) := fun x => (desk_cells (alloc_heap D8.hk x)).2.2.2.1
  have A2 : ∀ x, (w8.alloc x).cell? ⟨k, 2, none⟩ = some (.int .i64 run) := fun x => (desk_cells (alloc_heap D8.hk x)).2.2.1
  have A1 : ∀ x, (w8.alloc x).cell? ⟨k, 1, none⟩ = some (.pointer (some ⟨q, 0, none⟩)) := fun x => (desk_cells (alloc_heap D8.hk x)).2.1
  have AF : ∀ x y, (w8.alloc x).frozen? ⟨k, y, none⟩ = false := fun x => (desk_cells (alloc_heap D8.hk x)).2.2.2.2
  have Z0 : ∀ x, (w8.alloc x).cell? ⟨w.heap.size, 0, none⟩ = some (.int .i64 7) := fun x => (op_cells (o := ⟨7, n, ct, s, tn, wh⟩) (alloc_heap O8 x)).1
  have ZK : ∀ u v x, (((w8.setCell ⟨k, 3, none⟩ u).setCell ⟨k, 2, none⟩ v).alloc x).cell? ⟨w.heap.size, 0, none⟩ = some (.int .i64 7) := fun u v x => (cell_same (w := w8.alloc x) (p := ⟨w.heap.size, 0, none⟩) (two_far w8 k w.heap.size u v x (ne_of_heap O8 D8.hk (by decide)))).trans (Z0 x)
  simp only at h0 h1 h2 h3 h4 h5 h6 z0
  go_wp2
  go_ret
  have hon : ∀ u v, Only (fun x => x = k) w8 ((w8.setCell ⟨k, 3, none⟩ u).setCell ⟨k, 2, none⟩ v) := fun u v => ((Only.refl _ _).k 3 _).k 2 _
  have FN := D8.fin1 (d' := some q) (run' := rn') (r' := ⟨md', gd', fl', tr', ts', sz', gt'⟩) (.cells #[.bool md', .string gd', .int .i64 fl', .string tr', .int .i64 ts', .int .i64 sz', .string gt'] 83) (hon _ _) (desk_put2 D8.hk rn') (by rw [size_set, size_set]) rfl (someDev Q8 Bq)
  exact ⟨rfl, hFin _ _ FN.1, E8.trans FN.2⟩
set_option maxRecDepth 100000 in
set_option maxHeartbeats 8000000 in
theorem step_raise (w : World) (B N k b g m : Nat) (c : ChipS) (run : Int) (r : RefS) (n ct : Int) (s tn : ByteArray) (wh : Bool) (q : Nat) (I : Inv B N w k b g m c (some q) run r) (hN : N < 4611686018427360000) :
    Calls Tryd.prog 16 #[.pointer (some ⟨k, 0, none⟩), OpS.v ⟨8, n, ct, s, tn, wh⟩, .bool false] w fun e w' => e = .returned (.bool true) ∧ Good B (N + 64) w' k ∧ Fr B w w' := by
  have D := I.D
  have hops := I.ops
  have hmade := I.dm rfl
  obtain ⟨F1, F2, ⟨n64, hn64, F3⟩, F4, F5, F6⟩ := fitsOp2 (o := ⟨8, n, ct, s, tn, wh⟩) I.rel hmade I.runs (by simp)
  have hgb : (opRef2 r run ⟨8, n, ct, s, tn, wh⟩).1.h.got.size ≤ 1048576 := by
    obtain ⟨_, hk⟩ := F2.yes F5
    have := hk.behind; omega
  have hrk := (I.rel.yes hmade).2
  have himg := hrk.img
  have hbeh := hrk.behind
  have htr := hrk.tr
  have HSU := fun wx (D : Desk B wx k b g m c (some q) run r) => sure_any wx B k b g m c (some q) run r D
  have HAF := fun wx (D : Desk B wx k b g m c (some q) run r) => after_more wx B k b g m c (some q) run r ⟨8, n, ct, s, tn, wh⟩ D (by simp) (by omega) (by omega) (by omega)
  have HOP := fun wx (D : Desk B wx k b g m c (some q) run r) => ops_any wx b g c D.dv.chip
  have HAR := fun wx => armed_no wx k ⟨8, n, ct, s, tn, wh⟩
  have HCA : ∀ wx, Desk B wx k b g m c (some q) run r → Calls Tryd.prog 40 #[.pointer (some ⟨k, 0, none⟩), OpS.v ⟨8, n, ct, s, tn, wh⟩] wx fun e w' => e = .returned (.tuple #[.int .i64 (opDev2 c run ⟨8, n, ct, s, tn, wh⟩).2.2, .agg noJump]) ∧ Left wx w' q b g (opDev2 c run ⟨8, n, ct, s, tn, wh⟩).1 (opDev2 c run ⟨8, n, ct, s, tn, wh⟩).2.1 := fun wx D => calls_raise wx B k b g m c (some q) run r n ct s tn wh D (by omega) q rfl I.rel.hok
  have L' := F2.live
  generalize opRef2 r run ⟨8, n, ct, s, tn, wh⟩ = out at *
  generalize opDev2 c run ⟨8, n, ct, s, tn, wh⟩ = od at *
  obtain ⟨c', rd', e1⟩ := od
  obtain ⟨r', rn', e'⟩ := out
  simp only at F1 F2 F3 F4 F5 F6 HAF HCA hgb L'
  have hF1 := F1.symm
  have hF4 := F4.symm
  clear F1 F4
  subst hF1 hF4
  have HSP := fun wx (D : DeskW B wx k b g m c' (some q) run r) => spent_noW wx B k b g m c' (some q) run r c.ops ⟨8, n, ct, s, tn, wh⟩ D L'.dead (by omega) (by omega)
  have HDE := fun wx (D : DeskW B wx k b g m c' (some q) run r) => dead_any wx b g c' D.dv.chip
  rw [L'.dead] at HDE
  have HRE : ∀ wx, DeskW B wx k b g m c' (some q) run r → Calls Tryd.prog 43 #[.pointer (some ⟨b, 0, none⟩)] wx fun e w' => e = .returned (.tuple #[]) ∧ DeskW B w' k b g m c' (some q) run r ∧ Only (fun x => x = b ∨ x = g) wx w' ∧ Fr B wx w' := by
    intro wx D
    refine (restore_any wx b g c' D.dv.chip).mono ?_
    rintro e w' ⟨rfl, h1, h2, _⟩
    rw [L'.restore] at h1
    exact ⟨rfl, (D.chip h1 h2).1, h2, (D.chip h1 h2).2⟩
  have hop2 : c'.ops ≤ ((N + 64 : Nat) : Int) := by omega
  have hFin : ∀ w' m', Desk B w' k b g m' c' (some q) rn' r' → Good B (N + 64) w' k := fun w' m' D' => ⟨b, g, m', c', some q, rn', r', D', F2, (fun _ => F5), hop2, hgb, F6⟩
  have hD1 : ∀ x, Desk B (w.alloc x) k b g m c (some q) run r := fun x => D.below ((Below.refl _ _).alloc (Nat.le_refl _) x)
  have hE1 : ∀ x, Fr B w (w.alloc x) := fun x => (Fr.refl _ _).alloc D.size x
  have hO1 := heap_alloc_new w (.cells (OpS.cs ⟨8, n, ct, s, tn, wh⟩) 50)
  have hbl : b < w.heap.size := D.lt.2.1
  have hgl : g < w.heap.size := D.lt.2.2.1
  have hql : q < w.heap.size := (Array.getElem?_eq_some_iff.1 (D.hd q rfl).1).1
  have Bq : B ≤ q := (D.hd q rfl).2
  have nkq : k ≠ q := fun e => (D.ne.2.2.2.2.2 q rfl).2.2.1 e.symm
  have nmq : m ≠ q := fun e => (D.ne.2.2.2.2.2 q rfl).2.2.2 e.symm
  have nbq : ¬ (q = b ∨ q = g) := fun e => by rcases e with e | e; exact (D.ne.2.2.2.2.2 q rfl).1 e; exact (D.ne.2.2.2.2.2 q rfl).2.1 e
  have q0' : q ≠ 0 := by have := D.B1; omega
  have nbg : ¬ (w.heap.size = b ∨ w.heap.size = g) := by omega
  have nbg3 : ¬ (w.heap.size = b ∨ w.heap.size = g ∨ w.heap.size = q) := by omega
  have q1 : ∀ x, (w.alloc x).cell? ⟨k, 1, none⟩ = some (.pointer (some ⟨q, 0, none⟩)) := fun x => (desk_cells (hD1 x).hk).2.1
  obtain ⟨md', gd', fl', tr', ts', sz', gt'⟩ := r'
  simp only [OpS.v, OpS.cs, RefS.v, noJump] at HAF HAR HCA HSP hO1 ⊢
  clear I D hN hgb F2 F3 F5 F6 hop2 L' hn64 hrk himg hbeh htr hmade
  go_enter Tryd.func16, Tryd.ntmps16
  go_wp2_with (first
    | (go_at_call 36; refine (HSU _ (hD1 _)).mono ?_; rintro en w1 ⟨rfl, rfl⟩)
    | (go_at_call 37; refine (HAF _ (hD1 _)).mono ?_; rintro en w1 ⟨rfl, hb1⟩; have D2 : ∀ x, Desk B (w1.alloc x) k b g m c (some q) run r := fun x => ((hD1 _).below hb1).below ((Below.refl _ _).alloc (Nat.le_refl _) x); have E2 : ∀ x, Fr B w (w1.alloc x) := fun x => ((hE1 _).trans (Fr.of hb1 (hD1 _).size)).alloc ((hD1 _).below hb1).size x; have O2 := fun x => alloc_heap (below_heap hb1 hO1) x; have H2 := heap_alloc_new w1 (.cells (RefS.cs ⟨md', gd', fl', tr', ts', sz', gt'⟩) 83); have hHlt : w.heap.size < w1.heap.size := Nat.lt_of_lt_of_le (by simp) hb1.size; have u0 : ∀ x, (w1.alloc x).cell? ⟨k, 0, none⟩ = some (.pointer (some ⟨b, 0, none⟩)) := fun x => (desk_cells (D2 x).hk).1; have o0 : ∀ x, (w1.alloc x).cell? ⟨w.heap.size, 0, none⟩ = some (.int .i64 8) := fun x => (op_cells (o := ⟨8, n, ct, s, tn, wh⟩) (O2 x)).1; have o1 : ∀ x, (w1.alloc x).cell? ⟨w.heap.size, 1, none⟩ = some (.int .i64 n) := fun x => (op_cells (o := ⟨8, n, ct, s, tn, wh⟩) (O2 x)).2.1; have o2 : ∀ x, (w1.alloc x).cell? ⟨w.heap.size, 2, none⟩ = some (.int .i64 ct) := fun x => (op_cells (o := ⟨8, n, ct, s, tn, wh⟩) (O2 x)).2.2.1; have o3 : ∀ x, (w1.alloc x).cell? ⟨w.heap.size, 3, none⟩ = some (.string s) := fun x => (op_cells (o := ⟨8, n, ct, s, tn, wh⟩) (O2 x)).2.2.2.1; have o4 : ∀ x, (w1.alloc x).cell? ⟨w.heap.size, 4, none⟩ = some (.string tn) := fun x => (op_cells (o := ⟨8, n, ct, s, tn, wh⟩) (O2 x)).2.2.2.2.1; have o5 : ∀ x, (w1.alloc x).cell? ⟨w.heap.size, 5, none⟩ = some (.bool wh) := fun x => (op_cells (o := ⟨8, n, ct, s, tn, wh⟩) (O2 x)).2.2.2.2.2.1)
    | (go_at_call 38; refine (HOP _ (D2 _)).mono ?_; rintro en w2 ⟨rfl, rfl⟩)
    | (go_at_call 39; refine (HAR _).mono ?_; rintro en w3 ⟨rfl, hb3⟩; have D3 := (D2 _).below hb3; have E3 := (E2 _).trans (Fr.of hb3 (D2 _).size); have O3 := below_heap hb3 (O2 _); have H3 := below_heap hb3 H2; obtain ⟨v0, v1, v2, v3, v4, v5, vf⟩ := op_cells (o := ⟨8, n, ct, s, tn, wh⟩) O3; simp only at v0 v1 v2 v3 v4 v5)
    | (go_at_call 40; refine (HCA _ D3).mono ?_; rintro en w4 ⟨rfl, hL4⟩; have D4 := D3.weak.chip3 hL4.chip hL4.only nkq nmq q0'; have E4 := E3.trans (D3.weak.fr3 hL4.only (D3.hd q rfl).1 Bq); have O4 := hL4.only.heap O3 nbg3; have H4 := hL4.only.heap H3 (by omega); have Q4 := hL4.dev; have D5 : ∀ x, DeskW B (w4.alloc x) k b g m c' (some q) run r := fun x => D4.below ((Below.refl _ _).alloc (Nat.le_refl _) x); have E5 : ∀ x, Fr B w (w4.alloc x) := fun x => E4.alloc D4.size x; have x0 : ∀ x, (w4.alloc x).cell? ⟨w.heap.size, 0, none⟩ = some (.int .i64 8) := fun x => (op_cells (o := ⟨8, n, ct, s, tn, wh⟩) (alloc_heap O4 x)).1; have x1 : ∀ x, (w4.alloc x).cell? ⟨w.heap.size, 1, none⟩ = some (.int .i64 n) := fun x => (op_cells (o := ⟨8, n, ct, s, tn, wh⟩) (alloc_heap O4 x)).2.1; have x2 : ∀ x, (w4.alloc x).cell? ⟨w.heap.size, 2, none⟩ = some (.int .i64 ct) := fun x => (op_cells (o := ⟨8, n, ct, s, tn, wh⟩) (alloc_heap O4 x)).2.2.1; have x3 : ∀ x, (w4.alloc x).cell? ⟨w.heap.size, 3, none⟩ = some (.string s) := fun x => (op_cells (o := ⟨8, n, ct, s, tn, wh⟩) (alloc_heap O4 x)).2.2.2.1; have x4 : ∀ x, (w4.alloc x).cell? ⟨w.heap.size, 4, none⟩ = some (.string tn) := fun x => (op_cells (o := ⟨8, n, ct, s, tn, wh⟩) (alloc_heap O4 x)).2.2.2.2.1; have x5 : ∀ x, (w4.alloc x).cell? ⟨w.heap.size, 5, none⟩ = some (.bool wh) := fun x => (op_cells (o := ⟨8, n, ct, s, tn, wh⟩) (alloc_heap O4 x)).2.2.2.2.2.1)
    | (go_at_call 41; refine (HSP _ (D5 _)).mono ?_; rintro en w6 ⟨rfl, hb6⟩; have D6 := (D5 _).below hb6; have E6 := (E5 _).trans (Fr.of hb6 (D5 _).size); have O6 := below_heap hb6 (alloc_heap O4 _); have H6 := below_heap hb6 (alloc_heap H4 _); have Q6 := below_heap hb6 (alloc_heap Q4 _); have y0 := (desk_cells D6.hk).1)
    | (go_at_call 42; refine (HDE _ D6).mono ?_; rintro en w7 ⟨rfl, rfl⟩))
  refine (HRE _ D6).mono ?_
  rintro en w8 ⟨rfl, D8, ho8, hF8⟩
  have E8 := E6.trans hF8
  have O8 := ho8.heap O6 nbg
  have H8 := ho8.heap H6 (by omega)
  have Q8 := ho8.heap Q6 nbq
  obtain ⟨a0, a1, a2, a3, af⟩ := desk_cells D8.hk
  obtain ⟨h0, h1, h2, h3, h4, h5, h6, hf⟩ := ref_cells H8
  have z0 := (op_cells (o := ⟨8, n, ct, s, tn, wh⟩) O8).1
  have kl := D8.lt.1
  have kn : ¬ k = w8.heap.size := by omega
  have kn2 : ¬ w8.heap.size = k := by omega
  have pl : ¬ w.heap.size = w8.heap.size := by (have t1 := (Array.getElem?_eq_some_iff.1 O8).1; omega)
  have A3 : ∀ x, (w8.alloc x).cell? ⟨k, 3, none⟩ = some (.slice (some ⟨m, 0, none⟩) 1 1) := fun x => (desk_cells (alloc_heap D8.hk x)).2.2.2.1
  have A2 : ∀ x, (w8.alloc x).cell? ⟨k, 2, none⟩ = some (.int .i64 run) := fun x => (desk_cells (alloc_heap D8.hk x)).2.2.1
  have A1 : ∀ x, (w8.alloc x).cell? ⟨k, 1, none⟩ = some (.pointer (some ⟨q, 0, none⟩)) := fun x => (desk_cells (alloc_heap D8.hk x)).2.1
  have AF : ∀ x y, (w8.alloc x).frozen? ⟨k, y, none⟩ = false := fun x => (desk_cells (alloc_heap D8.hk x)).2.2.2.2
  have Z0 : ∀ x, (w8.alloc x).cell? ⟨w.heap.size, 0, none⟩ = some (.int .i64 8) := fun x => (op_cells (o := ⟨8, n, ct, s, tn, wh⟩) (alloc_heap O8 x)).1
  have ZK : ∀ u v x, (((w8.setCell ⟨k, 3, none⟩ u).setCell ⟨k, 2, none⟩ v).alloc x).cell? ⟨w.heap.size, 0, none⟩ = some (.int .i64 8) := fun u v x => (cell_same (w := w8.alloc x) (p := ⟨w.heap.size, 0, none⟩) (two_far w8 k w.heap.size u v x (ne_of_heap O8 D8.hk (by decide)))).trans (Z0 x)
  simp only at h0 h1 h2 h3 h4 h5 h6 z0
  go_wp2
  go_ret
  have hon : ∀ u v, Only (fun x => x = k) w8 ((w8.setCell ⟨k, 3, none⟩ u).setCell ⟨k, 2, none⟩ v) := fun u v => ((Only.refl _ _).k 3 _).k 2 _
  have FN := D8.fin1 (d' := some q) (run' := rn') (r' := ⟨md', gd', fl', tr', ts', sz', gt'⟩) (.cells #[.bool md', .string gd', .int .i64 fl', .string tr', .int .i64 ts', .int .i64 sz', .string gt'] 83) (hon _ _) (desk_put2 D8.hk rn') (by rw [size_set, size_set]) rfl (someDev Q8 Bq)
  exact ⟨rfl, hFin _ _ FN.1, E8.trans FN.2⟩
set_option maxRecDepth 100000 in
set_option maxHeartbeats 8000000 in
theorem step_drop (w : World) (B N k b g m : Nat) (c : ChipS) (run : Int) (r : RefS) (n ct : Int) (s tn : ByteArray) (wh : Bool) (q : Nat) (I : Inv B N w k b g m c (some q) run r) (hN : N < 4611686018427360000) :
    Calls Tryd.prog 16 #[.pointer (some ⟨k, 0, none⟩), OpS.v ⟨9, n, ct, s, tn, wh⟩, .bool false] w fun e w' => e = .returned (.bool true) ∧ Good B (N + 64) w' k ∧ Fr B w w' := by
  have D := I.D
  have hops := I.ops
  have hmade := I.dm rfl
  obtain ⟨F1, F2, ⟨n64, hn64, F3⟩, F4, F5, F6⟩ := fitsOp2 (o := ⟨9, n, ct, s, tn, wh⟩) I.rel hmade I.runs (by simp)
  have hgb : (opRef2 r run ⟨9, n, ct, s, tn, wh⟩).1.h.got.size ≤ 1048576 := by
    obtain ⟨_, hk⟩ := F2.yes F5
    have := hk.behind; omega
  have hrk := (I.rel.yes hmade).2
  have himg := hrk.img
  have hbeh := hrk.behind
  have htr := hrk.tr
  have HSU := fun wx (D : Desk B wx k b g m c (some q) run r) => sure_any wx B k b g m c (some q) run r D
  have HAF := fun wx (D : Desk B wx k b g m c (some q) run r) => after_more wx B k b g m c (some q) run r ⟨9, n, ct, s, tn, wh⟩ D (by simp) (by omega) (by omega) (by omega)
  have HOP := fun wx (D : Desk B wx k b g m c (some q) run r) => ops_any wx b g c D.dv.chip
  have HAR := fun wx => armed_no wx k ⟨9, n, ct, s, tn, wh⟩
  have HCA : ∀ wx, Desk B wx k b g m c (some q) run r → Calls Tryd.prog 40 #[.pointer (some ⟨k, 0, none⟩), OpS.v ⟨9, n, ct, s, tn, wh⟩] wx fun e w' => e = .returned (.tuple #[.int .i64 (opDev2 c run ⟨9, n, ct, s, tn, wh⟩).2.2, .agg noJump]) ∧ Left wx w' q b g (opDev2 c run ⟨9, n, ct, s, tn, wh⟩).1 (opDev2 c run ⟨9, n, ct, s, tn, wh⟩).2.1 := fun wx D => calls_drop wx B k b g m c (some q) run r n ct s tn wh D (by omega) q rfl I.rel.hok
  have L' := F2.live
  generalize opRef2 r run ⟨9, n, ct, s, tn, wh⟩ = out at *
  generalize opDev2 c run ⟨9, n, ct, s, tn, wh⟩ = od at *
  obtain ⟨c', rd', e1⟩ := od
  obtain ⟨r', rn', e'⟩ := out
  simp only at F1 F2 F3 F4 F5 F6 HAF HCA hgb L'
  have hF1 := F1.symm
  have hF4 := F4.symm
  clear F1 F4
  subst hF1 hF4
  have HSP := fun wx (D : DeskW B wx k b g m c' (some q) run r) => spent_noW wx B k b g m c' (some q) run r c.ops ⟨9, n, ct, s, tn, wh⟩ D L'.dead (by omega) (by omega)
  have HDE := fun wx (D : DeskW B wx k b g m c' (some q) run r) => dead_any wx b g c' D.dv.chip
  rw [L'.dead] at HDE
  have HRE : ∀ wx, DeskW B wx k b g m c' (some q) run r → Calls Tryd.prog 43 #[.pointer (some ⟨b, 0, none⟩)] wx fun e w' => e = .returned (.tuple #[]) ∧ DeskW B w' k b g m c' (some q) run r ∧ Only (fun x => x = b ∨ x = g) wx w' ∧ Fr B wx w' := by
    intro wx D
    refine (restore_any wx b g c' D.dv.chip).mono ?_
    rintro e w' ⟨rfl, h1, h2, _⟩
    rw [L'.restore] at h1
    exact ⟨rfl, (D.chip h1 h2).1, h2, (D.chip h1 h2).2⟩
  have hop2 : c'.ops ≤ ((N + 64 : Nat) : Int) := by omega
  have hFin : ∀ w' m', Desk B w' k b g m' c' (some q) rn' r' → Good B (N + 64) w' k := fun w' m' D' => ⟨b, g, m', c', some q, rn', r', D', F2, (fun _ => F5), hop2, hgb, F6⟩
  have hD1 : ∀ x, Desk B (w.alloc x) k b g m c (some q) run r := fun x => D.below ((Below.refl _ _).alloc (Nat.le_refl _) x)
  have hE1 : ∀ x, Fr B w (w.alloc x) := fun x => (Fr.refl _ _).alloc D.size x
  have hO1 := heap_alloc_new w (.cells (OpS.cs ⟨9, n, ct, s, tn, wh⟩) 50)
  have hbl : b < w.heap.size := D.lt.2.1
  have hgl : g < w.heap.size := D.lt.2.2.1
  have hql : q < w.heap.size := (Array.getElem?_eq_some_iff.1 (D.hd q rfl).1).1
  have Bq : B ≤ q := (D.hd q rfl).2
  have nkq : k ≠ q := fun e => (D.ne.2.2.2.2.2 q rfl).2.2.1 e.symm
  have nmq : m ≠ q := fun e => (D.ne.2.2.2.2.2 q rfl).2.2.2 e.symm
  have nbq : ¬ (q = b ∨ q = g) := fun e => by rcases e with e | e; exact (D.ne.2.2.2.2.2 q rfl).1 e; exact (D.ne.2.2.2.2.2 q rfl).2.1 e
  have q0' : q ≠ 0 := by have := D.B1; omega
  have nbg : ¬ (w.heap.size = b ∨ w.heap.size = g) := by omega
  have nbg3 : ¬ (w.heap.size = b ∨ w.heap.size = g ∨ w.heap.size = q) := by omega
  have q1 : ∀ x, (w.alloc x).cell? ⟨k, 1, none⟩ = some (.pointer (some ⟨q, 0, none⟩)) := fun x => (desk_cells (hD1 x).hk).2.1
  obtain ⟨md', gd', fl', tr', ts', sz', gt'⟩ := r'
  simp only [OpS.v, OpS.cs, RefS.v, noJump] at HAF HAR HCA HSP hO1 ⊢
  clear I D hN hgb F2 F3 F5 F6 hop2 L' hn64 hrk himg hbeh htr hmade
  go_enter Tryd.func16, Tryd.ntmps16
  go_wp2_with (first
    | (go_at_call 36; refine (HSU _ (hD1 _)).mono ?_; rintro en w1 ⟨rfl, rfl⟩)
    | (go_at_call 37; refine (HAF _ (hD1 _)).mono ?_; rintro en w1 ⟨rfl, hb1⟩; have D2 : ∀ x, Desk B (w1.alloc x) k b g m c (some q) run r := fun x => ((hD1 _).below hb1).below ((Below.refl _ _).alloc (Nat.le_refl _) x); have E2 : ∀ x, Fr B w (w1.alloc x) := fun x => ((hE1 _).trans (Fr.of hb1 (hD1 _).size)).alloc ((hD1 _).below hb1).size x; have O2 := fun x => alloc_heap (below_heap hb1 hO1) x; have H2 := heap_alloc_new w1 (.cells (RefS.cs ⟨md', gd', fl', tr', ts', sz', gt'⟩) 83); have hHlt : w.heap.size < w1.heap.size := Nat.lt_of_lt_of_le (by simp) hb1.size; have u0 : ∀ x, (w1.alloc x).cell? ⟨k, 0, none⟩ = some (.pointer (some ⟨b, 0, none⟩)) := fun x => (desk_cells (D2 x).hk).1; have o0 : ∀ x, (w1.alloc x).cell? ⟨w.heap.size, 0, none⟩ = some (.int .i64 9) := fun x => (op_cells (o := ⟨9, n, ct, s, tn, wh⟩) (O2 x)).1; have o1 : ∀ x, (w1.alloc x).cell? ⟨w.heap.size, 1, none⟩ = some (.int .i64 n) := fun x => (op_cells (o := ⟨9, n, ct, s, tn, wh⟩) (O2 x)).2.1; have o2 : ∀ x, (w1.alloc x).cell? ⟨w.heap.size, 2, none⟩ = some (.int .i64 ct) := fun x => (op_cells (o := ⟨9, n, ct, s, tn, wh⟩) (O2 x)).2.2.1; have o3 : ∀ x, (w1.alloc x).cell? ⟨w.heap.size, 3, none⟩ = some (.string s) := fun x => (op_cells (o := ⟨9, n, ct, s, tn, wh⟩) (O2 x)).2.2.2.1; have o4 : ∀ x, (w1.alloc x).cell? ⟨w.heap.size, 4, none⟩ = some (.string tn) := fun x => (op_cells (o := ⟨9, n, ct, s, tn, wh⟩) (O2 x)).2.2.2.2.1; have o5 : ∀ x, (w1.alloc x).cell? ⟨w.heap.size, 5, none⟩ = some (.bool wh) := fun x => (op_cells (o := ⟨9, n, ct, s, tn, wh⟩) (O2 x)).2.2.2.2.2.1)
    | (go_at_call 38; refine (HOP _ (D2 _)).mono ?_; rintro en w2 ⟨rfl, rfl⟩)
    | (go_at_call 39; refine (HAR _).mono ?_; rintro en w3 ⟨rfl, hb3⟩; have D3 := (D2 _).below hb3; have E3 := (E2 _).trans (Fr.of hb3 (D2 _).size); have O3 := below_heap hb3 (O2 _); have H3 := below_heap hb3 H2; obtain ⟨v0, v1, v2, v3, v4, v5, vf⟩ := op_cells (o := ⟨9, n, ct, s, tn, wh⟩) O3; simp only at v0 v1 v2 v3 v4 v5)
    | (go_at_call 40; refine (HCA _ D3).mono ?_; rintro en w4 ⟨rfl, hL4⟩; have D4 := D3.weak.chip3 hL4.chip hL4.only nkq nmq q0'; have E4 := E3.trans (D3.weak.fr3 hL4.only (D3.hd q rfl).1 Bq); have O4 := hL4.only.heap O3 nbg3; have H4 := hL4.only.heap H3 (by omega); have Q4 := hL4.dev; have D5 : ∀ x, DeskW B (w4.alloc x) k b g m c' (some q) run r := fun x => D4.below ((Below.refl _ _).alloc (Nat.le_refl _) x); have E5 : ∀ x, Fr B w (w4.alloc x) := fun x => E4.alloc D4.size x; have x0 : ∀ x, (w4.alloc x).cell? ⟨w.heap.size, 0, none⟩ = some (.int .i64 9) := fun x => (op_cells (o := ⟨9, n, ct, s, tn, wh⟩) (alloc_heap O4 x)).1; have x1 : ∀ x, (w4.alloc x).cell? ⟨w.heap.size, 1, none⟩ = some (.int .i64 n) := fun x => (op_cells (o := ⟨9, n, ct, s, tn, wh⟩) (alloc_heap O4 x)).2.1; have x2 : ∀ x, (w4.alloc x).cell? ⟨w.heap.size, 2, none⟩ = some (.int .i64 ct) := fun x => (op_cells (o := ⟨9, n, ct, s, tn, wh⟩) (alloc_heap O4 x)).2.2.1; have x3 : ∀ x, (w4.alloc x).cell? ⟨w.heap.size, 3, none⟩ = some (.string s) := fun x => (op_cells (o := ⟨9, n, ct, s, tn, wh⟩) (alloc_heap O4 x)).2.2.2.1; have x4 : ∀ x, (w4.alloc x).cell? ⟨w.heap.size, 4, none⟩ = some (.string tn) := fun x => (op_cells (o := ⟨9, n, ct, s, tn, wh⟩) (alloc_heap O4 x)).2.2.2.2.1; have x5 : ∀ x, (w4.alloc x).cell? ⟨w.heap.size, 5, none⟩ = some (.bool wh) := fun x => (op_cells (o := ⟨9, n, ct, s, tn, wh⟩) (alloc_heap O4 x)).2.2.2.2.2.1)
    | (go_at_call 41; refine (HSP _ (D5 _)).mono ?_; rintro en w6 ⟨rfl, hb6⟩; have D6 := (D5 _).below hb6; have E6 := (E5 _).trans (Fr.of hb6 (D5 _).size); have O6 := below_heap hb6 (alloc_heap O4 _); have H6 := below_heap hb6 (alloc_heap H4 _); have Q6 := below_heap hb6 (alloc_heap Q4 _); have y0 := (desk_cells D6.hk).1)
    | (go_at_call 42; refine (HDE _ D6).mono ?_; rintro en w7 ⟨rfl, rfl⟩))
  refine (HRE _ D6).mono ?_
  rintro en w8 ⟨rfl, D8, ho8, hF8⟩
  have E8 := E6.trans hF8
  have O8 := ho8.heap O6 nbg
  have H8 := ho8.heap H6 (by omega)
  have Q8 := ho8.heap Q6 nbq
  obtain ⟨a0, a1, a2, a3, af⟩ := desk_cells D8.hk
  obtain ⟨h0, h1, h2, h3, h4, h5, h6, hf⟩ := ref_cells H8
  have z0 := (op_cells (o := ⟨9, n, ct, s, tn, wh⟩) O8).1
  have kl := D8.lt.1
  have kn : ¬ k = w8.heap.size := by omega
  have kn2 : ¬ w8.heap.size = k := by omega
  have pl : ¬ w.heap.size = w8.heap.size := by (have t1 := (Array.getElem?_eq_some_iff.1 O8).1; omega)
  have A3 : ∀ x, (w8.alloc x).cell? ⟨k, 3, none⟩ = some (.slice (some ⟨m, 0, none⟩) 1 1) := fun x => (desk_cells (alloc_heap D8.hk x)).2.2.2.1
  have A2 : ∀ x, (w8.alloc x).cell? ⟨k, 2, none⟩ = some (.int .i64 run) := fun x => (desk_cells (alloc_heap D8.hk x)).2.2.1
  have A1 : ∀ x, (w8.alloc x).cell? ⟨k, 1, none⟩ = some (.pointer (some ⟨q, 0, none⟩)) := fun x => (desk_cells (alloc_heap D8.hk x)).2.1
  have AF : ∀ x y, (w8.alloc x).frozen? ⟨k, y, none⟩ = false := fun x => (desk_cells (alloc_heap D8.hk x)).2.2.2.2
  have Z0 : ∀ x, (w8.alloc x).cell? ⟨w.heap.size, 0, none⟩ = some (.int .i64 9) := fun x => (op_cells (o := ⟨9, n, ct, s, tn, wh⟩) (alloc_heap O8 x)).1
  have ZK : ∀ u v x, (((w8.setCell ⟨k, 3, none⟩ u).setCell ⟨k, 2, none⟩ v).alloc x).cell? ⟨w.heap.size, 0, none⟩ = some (.int .i64 9) := fun u v x => (cell_same (w := w8.alloc x) (p := ⟨w.heap.size, 0, none⟩) (two_far w8 k w.heap.size u v x (ne_of_heap O8 D8.hk (by decide)))).trans (Z0 x)
  simp only at h0 h1 h2 h3 h4 h5 h6 z0
  go_wp2
  go_ret
  have hon : ∀ u v, Only (fun x => x = k) w8 ((w8.setCell ⟨k, 3, none⟩ u).setCell ⟨k, 2, none⟩ v) := fun u v => ((Only.refl _ _).k 3 _).k 2 _
  have FN := D8.fin1 (d' := some q) (run' := rn') (r' := ⟨md', gd', fl', tr', ts', sz', gt'⟩) (.cells #[.bool md', .string gd', .int .i64 fl', .string tr', .int .i64 ts', .int .i64 sz', .string gt'] 83) (hon _ _) (desk_put2 D8.hk rn') (by rw [size_set, size_set]) rfl (someDev Q8 Bq)
  exact ⟨rfl, hFin _ _ FN.1, E8.trans FN.2⟩
end Go.Proofs.YtcokahccbjdeaaaDoor

namespace Go.Proofs.YtcokahccbjdeaaaDoor
open Go.RowKit

set_option maxRecDepth 100000 in
set_option maxHeartbeats 8000000 in
theorem step_boot (w : World) (B N k b g m : Nat) (c : ChipS) (run : Int) (r : RefS) (n ct : Int) (s tn : ByteArray) (wh : Bool) (q : Nat) (I : Inv B N w k b g m c (some q) run r) (hN : N < 4611686018427360000) :
    Calls Tryd.prog 16 #[.pointer (some ⟨k, 0, none⟩), OpS.v ⟨6, n, ct, s, tn, wh⟩, .bool false] w fun e w' => e = .returned (.bool true) ∧ Good B (N + 64) w' k ∧ Fr B w w' := by
  have D := I.D
  have hops := I.ops
  have hmade := I.dm rfl
  obtain ⟨F1, F2, ⟨n64, hn64, F3⟩, F4, F5, F6⟩ := fitsOp2 (o := ⟨6, n, ct, s, tn, wh⟩) I.rel hmade I.runs (by simp)
  have hgb : (opRef2 r run ⟨6, n, ct, s, tn, wh⟩).1.h.got.size ≤ 1048576 := by
    obtain ⟨_, hk⟩ := F2.yes F5
    have := hk.behind; omega
  have hrk := (I.rel.yes hmade).2
  have himg := hrk.img
  have hbeh := hrk.behind
  have htr := hrk.tr
  have hGJ : jumpV (bootM c run).2.2.1 (bootM c run).2.2.2 = jumpV ((opRef2 r run ⟨6, n, ct, s, tn, wh⟩).2.1 == 2) (if (opRef2 r run ⟨6, n, ct, s, tn, wh⟩).2.1 = 2 then (opRef2 r run ⟨6, n, ct, s, tn, wh⟩).1.h.trial else (opRef2 r run ⟨6, n, ct, s, tn, wh⟩).1.h.good) := by
    obtain ⟨_, _, G1, G2, _⟩ := I.rel.boot hmade run
    rw [G1, G2]; rfl
  have HJU := fun wx => refJump wx (opRef2 r run ⟨6, n, ct, s, tn, wh⟩).1 (opRef2 r run ⟨6, n, ct, s, tn, wh⟩).2.1 (by obtain ⟨_, hk⟩ := F2.yes F5; have := hk.img; omega) (by obtain ⟨_, hk⟩ := F2.yes F5; have := hk.behind; omega)
  have HSL := fun wx => sameLoaded_any wx (loadedB (if (opRef2 r run ⟨6, n, ct, s, tn, wh⟩).2.1 = 2 then (opRef2 r run ⟨6, n, ct, s, tn, wh⟩).1.h.trial else (opRef2 r run ⟨6, n, ct, s, tn, wh⟩).1.h.good)).1 (loadedB (if (opRef2 r run ⟨6, n, ct, s, tn, wh⟩).2.1 = 2 then (opRef2 r run ⟨6, n, ct, s, tn, wh⟩).1.h.trial else (opRef2 r run ⟨6, n, ct, s, tn, wh⟩).1.h.good)).2.1 (loadedB (if (opRef2 r run ⟨6, n, ct, s, tn, wh⟩).2.1 = 2 then (opRef2 r run ⟨6, n, ct, s, tn, wh⟩).1.h.trial else (opRef2 r run ⟨6, n, ct, s, tn, wh⟩).1.h.good)).2.2
  have HSU := fun wx (D : Desk B wx k b g m c (some q) run r) => sure_any wx B k b g m c (some q) run r D
  have HAF := fun wx (D : Desk B wx k b g m c (some q) run r) => after_more wx B k b g m c (some q) run r ⟨6, n, ct, s, tn, wh⟩ D (by simp) (by omega) (by omega) (by omega)
  have HOP := fun wx (D : Desk B wx k b g m c (some q) run r) => ops_any wx b g c D.dv.chip
  have HAR := fun wx => armed_no wx k ⟨6, n, ct, s, tn, wh⟩
  have HCA : ∀ wx, Desk B wx k b g m c (some q) run r → Calls Tryd.prog 40 #[.pointer (some ⟨k, 0, none⟩), OpS.v ⟨6, n, ct, s, tn, wh⟩] wx fun e w' => e = .returned (.tuple #[.int .i64 (opDev2 c run ⟨6, n, ct, s, tn, wh⟩).2.2, .agg (jumpV (bootM c run).2.2.1 (bootM c run).2.2.2)]) ∧ Left wx w' q b g (opDev2 c run ⟨6, n, ct, s, tn, wh⟩).1 (opDev2 c run ⟨6, n, ct, s, tn, wh⟩).2.1 := fun wx D => calls_boot wx B k b g m c (some q) run r n ct s tn wh D (by omega) q rfl I.rel.hok
  have L' := F2.live
  rw [hGJ] at HCA
  simp only [jumpV] at HCA
  generalize loadedB (if (opRef2 r run ⟨6, n, ct, s, tn, wh⟩).2.1 = 2 then (opRef2 r run ⟨6, n, ct, s, tn, wh⟩).1.h.trial else (opRef2 r run ⟨6, n, ct, s, tn, wh⟩).1.h.good) = lo at *
  obtain ⟨ja, jb, jc⟩ := lo
  generalize ((opRef2 r run ⟨6, n, ct, s, tn, wh⟩).2.1 == 2) = jt at *
  clear hGJ
  generalize opRef2 r run ⟨6, n, ct, s, tn, wh⟩ = out at *
  generalize opDev2 c run ⟨6, n, ct, s, tn, wh⟩ = od at *
  obtain ⟨c', rd', e1⟩ := od
  obtain ⟨r', rn', e'⟩ := out
  simp only at F1 F2 F3 F4 F5 F6 HAF HCA hgb L' HJU HSL
  have hF1 := F1.symm
  have hF4 := F4.symm
  clear F1 F4
  subst hF1 hF4
  have HSP := fun wx (D : DeskW B wx k b g m c' (some q) run r) => spent_noW wx B k b g m c' (some q) run r c.ops ⟨6, n, ct, s, tn, wh⟩ D L'.dead (by omega) (by omega)
  have HDE := fun wx (D : DeskW B wx k b g m c' (some q) run r) => dead_any wx b g c' D.dv.chip
  rw [L'.dead] at HDE
  have HRE : ∀ wx, DeskW B wx k b g m c' (some q) run r → Calls Tryd.prog 43 #[.pointer (some ⟨b, 0, none⟩)] wx fun e w' => e = .returned (.tuple #[]) ∧ DeskW B w' k b g m c' (some q) run r ∧ Only (fun x => x = b ∨ x = g) wx w' ∧ Fr B wx w' := by
    intro wx D
    refine (restore_any wx b g c' D.dv.chip).mono ?_
    rintro e w' ⟨rfl, h1, h2, _⟩
    rw [L'.restore] at h1
    exact ⟨rfl, (D.chip h1 h2).1, h2, (D.chip h1 h2).2⟩
  have hop2 : c'.ops ≤ ((N + 64 : Nat) : Int) := by omega
  have hFin : ∀ w' m', Desk B w' k b g m' c' (some q) rn' r' → Good B (N + 64) w' k := fun w' m' D' => ⟨b, g, m', c', some q, rn', r', D', F2, (fun _ => F5), hop2, hgb, F6⟩
  have hD1 : ∀ x, Desk B (w.alloc x) k b g m c (some q) run r := fun x => D.below ((Below.refl _ _).alloc (Nat.le_refl _) x)
  have hE1 : ∀ x, Fr B w (w.alloc x) := fun x => (Fr.refl _ _).alloc D.size x
  have hO1 := heap_alloc_new w (.cells (OpS.cs ⟨6, n, ct, s, tn, wh⟩) 50)
  have hbl : b < w.heap.size := D.lt.2.1
  have hgl : g < w.heap.size := D.lt.2.2.1
  have hql : q < w.heap.size := (Array.getElem?_eq_some_iff.1 (D.hd q rfl).1).1
  have Bq : B ≤ q := (D.hd q rfl).2
  have nkq : k ≠ q := fun e => (D.ne.2.2.2.2.2 q rfl).2.2.1 e.symm
  have nmq : m ≠ q := fun e => (D.ne.2.2.2.2.2 q rfl).2.2.2 e.symm
  have nbq : ¬ (q = b ∨ q = g) := fun e => by rcases e with e | e; exact (D.ne.2.2.2.2.2 q rfl).1 e; exact (D.ne.2.2.2.2.2 q rfl).2.1 e
  have q0' : q ≠ 0 := by have := D.B1; omega
  have nbg : ¬ (w.heap.size = b ∨ w.heap.size = g) := by omega
  have nbg3 : ¬ (w.heap.size = b ∨ w.heap.size = g ∨ w.heap.size = q) := by omega
  have q1 : ∀ x, (w.alloc x).cell? ⟨k, 1, none⟩ = some (.pointer (some ⟨q, 0, none⟩)) := fun x => (desk_cells (hD1 x).hk).2.1
  obtain ⟨md', gd', fl', tr', ts', sz', gt'⟩ := r'
  simp only [OpS.v, OpS.cs, RefS.v] at HAF HAR HCA HSP HJU hO1 ⊢
  clear I D hN hgb F2 F3 F5 F6 hop2 L' hn64 hrk himg hbeh htr hmade
  go_enter Tryd.func16, Tryd.ntmps16
  go_wp2_with (first
    | (go_at_call 36; refine (HSU _ (hD1 _)).mono ?_; rintro en w1 ⟨rfl, rfl⟩)
    | (go_at_call 37; refine (HAF _ (hD1 _)).mono ?_; rintro en w1 ⟨rfl, hb1⟩; have D2 : ∀ x, Desk B (w1.alloc x) k b g m c (some q) run r := fun x => ((hD1 _).below hb1).below ((Below.refl _ _).alloc (Nat.le_refl _) x); have E2 : ∀ x, Fr B w (w1.alloc x) := fun x => ((hE1 _).trans (Fr.of hb1 (hD1 _).size)).alloc ((hD1 _).below hb1).size x; have O2 := fun x => alloc_heap (below_heap hb1 hO1) x; have H2 := heap_alloc_new w1 (.cells (RefS.cs ⟨md', gd', fl', tr', ts', sz', gt'⟩) 83); have hHlt : w.heap.size < w1.heap.size := Nat.lt_of_lt_of_le (by simp) hb1.size; have u0 : ∀ x, (w1.alloc x).cell? ⟨k, 0, none⟩ = some (.pointer (some ⟨b, 0, none⟩)) := fun x => (desk_cells (D2 x).hk).1; have o0 : ∀ x, (w1.alloc x).cell? ⟨w.heap.size, 0, none⟩ = some (.int .i64 6) := fun x => (op_cells (o := ⟨6, n, ct, s, tn, wh⟩) (O2 x)).1; have o1 : ∀ x, (w1.alloc x).cell? ⟨w.heap.size, 1, none⟩ = some (.int .i64 n) := fun x => (op_cells (o := ⟨6, n, ct, s, tn, wh⟩) (O2 x)).2.1; have o2 : ∀ x, (w1.alloc x).cell? ⟨w.heap.size, 2, none⟩ = some (.int .i64 ct) := fun x => (op_cells (o := ⟨6, n, ct, s, tn, wh⟩) (O2 x)).2.2.1; have o3 : ∀ x, (w1.alloc x).cell? ⟨w.heap.size, 3, none⟩ = some (.string s) := fun x => (op_cells (o := ⟨6, n, ct, s, tn, wh⟩) (O2 x)).2.2.2.1; have o4 : ∀ x, (w1.alloc x).cell? ⟨w.heap.size, 4, none⟩ = some (.string tn) := fun x => (op_cells (o := ⟨6, n, ct, s, tn, wh⟩) (O2 x)).2.2.2.2.1; have o5 : ∀ x, (w1.alloc x).cell? ⟨w.heap.size, 5, none⟩ = some (.bool wh) := fun x => (op_cells (o := ⟨6, n, ct, s, tn, wh⟩) (O2 x)).2.2.2.2.2.1)
    | (go_at_call 38; refine (HOP _ (D2 _)).mono ?_; rintro en w2 ⟨rfl, rfl⟩)
    | (go_at_call 39; refine (HAR _).mono ?_; rintro en w3 ⟨rfl, hb3⟩; have D3 := (D2 _).below hb3; have E3 := (E2 _).trans (Fr.of hb3 (D2 _).size); have O3 := below_heap hb3 (O2 _); have H3 := below_heap hb3 H2; obtain ⟨v0, v1, v2, v3, v4, v5, vf⟩ := op_cells (o := ⟨6, n, ct, s, tn, wh⟩) O3; simp only at v0 v1 v2 v3 v4 v5)
    | (go_at_call 40; refine (HCA _ D3).mono ?_; rintro en w4 ⟨rfl, hL4⟩; have D4 := D3.weak.chip3 hL4.chip hL4.only nkq nmq q0'; have E4 := E3.trans (D3.weak.fr3 hL4.only (D3.hd q rfl).1 Bq); have O4 := hL4.only.heap O3 nbg3; have H4 := hL4.only.heap H3 (by omega); have Q4 := hL4.dev; have D5 : ∀ x, DeskW B (w4.alloc x) k b g m c' (some q) run r := fun x => D4.below ((Below.refl _ _).alloc (Nat.le_refl _) x); have E5 : ∀ x, Fr B w (w4.alloc x) := fun x => E4.alloc D4.size x; have x0 : ∀ x, (w4.alloc x).cell? ⟨w.heap.size, 0, none⟩ = some (.int .i64 6) := fun x => (op_cells (o := ⟨6, n, ct, s, tn, wh⟩) (alloc_heap O4 x)).1; have x1 : ∀ x, (w4.alloc x).cell? ⟨w.heap.size, 1, none⟩ = some (.int .i64 n) := fun x => (op_cells (o := ⟨6, n, ct, s, tn, wh⟩) (alloc_heap O4 x)).2.1; have x2 : ∀ x, (w4.alloc x).cell? ⟨w.heap.size, 2, none⟩ = some (.int .i64 ct) := fun x => (op_cells (o := ⟨6, n, ct, s, tn, wh⟩) (alloc_heap O4 x)).2.2.1; have x3 : ∀ x, (w4.alloc x).cell? ⟨w.heap.size, 3, none⟩ = some (.string s) := fun x => (op_cells (o := ⟨6, n, ct, s, tn, wh⟩) (alloc_heap O4 x)).2.2.2.1; have x4 : ∀ x, (w4.alloc x).cell? ⟨w.heap.size, 4, none⟩ = some (.string tn) := fun x => (op_cells (o := ⟨6, n, ct, s, tn, wh⟩) (alloc_heap O4 x)).2.2.2.2.1; have x5 : ∀ x, (w4.alloc x).cell? ⟨w.heap.size, 5, none⟩ = some (.bool wh) := fun x => (op_cells (o := ⟨6, n, ct, s, tn, wh⟩) (alloc_heap O4 x)).2.2.2.2.2.1)
    | (go_at_call 41; refine (HSP _ (D5 _)).mono ?_; rintro en w6 ⟨rfl, hb6⟩; have D6 := (D5 _).below hb6; have E6 := (E5 _).trans (Fr.of hb6 (D5 _).size); have O6 := below_heap hb6 (alloc_heap O4 _); have H6 := below_heap hb6 (alloc_heap H4 _); have Q6 := below_heap hb6 (alloc_heap Q4 _); have J6 := below_heap hb6 (heap_alloc_new w4 _); have y0 := (desk_cells D6.hk).1)
    | (go_at_call 42; refine (HDE _ D6).mono ?_; rintro en w7 ⟨rfl, rfl⟩))
  refine (HRE _ D6).mono ?_
  rintro en w8 ⟨rfl, D8, ho8, hF8⟩
  have E8 := E6.trans hF8
  have O8 := ho8.heap O6 nbg
  have H8 := ho8.heap H6 (by omega)
  have Q8 := ho8.heap Q6 nbq
  obtain ⟨a0, a1, a2, a3, af⟩ := desk_cells D8.hk
  obtain ⟨h0, h1, h2, h3, h4, h5, h6, hf⟩ := ref_cells H8
  have z0 := (op_cells (o := ⟨6, n, ct, s, tn, wh⟩) O8).1
  have kl := D8.lt.1
  have kn : ¬ k = w8.heap.size := by omega
  have kn2 : ¬ w8.heap.size = k := by omega
  have pl : ¬ w.heap.size = w8.heap.size := by (have t1 := (Array.getElem?_eq_some_iff.1 O8).1; omega)
  have A3 : ∀ x, (w8.alloc x).cell? ⟨k, 3, none⟩ = some (.slice (some ⟨m, 0, none⟩) 1 1) := fun x => (desk_cells (alloc_heap D8.hk x)).2.2.2.1
  have A2 : ∀ x, (w8.alloc x).cell? ⟨k, 2, none⟩ = some (.int .i64 run) := fun x => (desk_cells (alloc_heap D8.hk x)).2.2.1
  have A1 : ∀ x, (w8.alloc x).cell? ⟨k, 1, none⟩ = some (.pointer (some ⟨q, 0, none⟩)) := fun x => (desk_cells (alloc_heap D8.hk x)).2.1
  have AF : ∀ x y, (w8.alloc x).frozen? ⟨k, y, none⟩ = false := fun x => (desk_cells (alloc_heap D8.hk x)).2.2.2.2
  have Z0 : ∀ x, (w8.alloc x).cell? ⟨w.heap.size, 0, none⟩ = some (.int .i64 6) := fun x => (op_cells (o := ⟨6, n, ct, s, tn, wh⟩) (alloc_heap O8 x)).1
  have ZK : ∀ u v x, (((w8.setCell ⟨k, 3, none⟩ u).setCell ⟨k, 2, none⟩ v).alloc x).cell? ⟨w.heap.size, 0, none⟩ = some (.int .i64 6) := fun u v x => (cell_same (w := w8.alloc x) (p := ⟨w.heap.size, 0, none⟩) (two_far w8 k w.heap.size u v x (ne_of_heap O8 D8.hk (by decide)))).trans (Z0 x)
  simp only at h0 h1 h2 h3 h4 h5 h6 z0
  have hw4 := E4.bel.size
  have J8 := ho8.heap J6 (by omega)
  have kH : w1.heap.size ≠ k := by
    have e := ne_of_heap H8 D8.hk (by decide)
    exact e
  have hHk : ∀ u v x, (((w8.setCell ⟨k, 3, none⟩ u).setCell ⟨k, 2, none⟩ v).alloc x).heap[w1.heap.size]? = some (.cells (RefS.cs ⟨md', gd', fl', tr', ts', sz', gt'⟩) 83 (0, 0)) := fun u v x => (two_far w8 k w1.heap.size u v x kH).trans (alloc_heap H8 x)
  have k0 : ∀ u v x, (((w8.setCell ⟨k, 3, none⟩ u).setCell ⟨k, 2, none⟩ v).alloc x).cell? ⟨w1.heap.size, 0, none⟩ = some (.bool md') := fun u v x => (ref_cells (hHk u v x)).1
  have k1 : ∀ u v x, (((w8.setCell ⟨k, 3, none⟩ u).setCell ⟨k, 2, none⟩ v).alloc x).cell? ⟨w1.heap.size, 1, none⟩ = some (.string gd') := fun u v x => (ref_cells (hHk u v x)).2.1
  have k2 : ∀ u v x, (((w8.setCell ⟨k, 3, none⟩ u).setCell ⟨k, 2, none⟩ v).alloc x).cell? ⟨w1.heap.size, 2, none⟩ = some (.int .i64 fl') := fun u v x => (ref_cells (hHk u v x)).2.2.1
  have k3 : ∀ u v x, (((w8.setCell ⟨k, 3, none⟩ u).setCell ⟨k, 2, none⟩ v).alloc x).cell? ⟨w1.heap.size, 3, none⟩ = some (.string tr') := fun u v x => (ref_cells (hHk u v x)).2.2.2.1
  have k4 : ∀ u v x, (((w8.setCell ⟨k, 3, none⟩ u).setCell ⟨k, 2, none⟩ v).alloc x).cell? ⟨w1.heap.size, 4, none⟩ = some (.int .i64 ts') := fun u v x => (ref_cells (hHk u v x)).2.2.2.2.1
  have k5 : ∀ u v x, (((w8.setCell ⟨k, 3, none⟩ u).setCell ⟨k, 2, none⟩ v).alloc x).cell? ⟨w1.heap.size, 5, none⟩ = some (.int .i64 sz') := fun u v x => (ref_cells (hHk u v x)).2.2.2.2.2.1
  have k6 : ∀ u v x, (((w8.setCell ⟨k, 3, none⟩ u).setCell ⟨k, 2, none⟩ v).alloc x).cell? ⟨w1.heap.size, 6, none⟩ = some (.string gt') := fun u v x => (ref_cells (hHk u v x)).2.2.2.2.2.2.1
  go_wp2_with fail
  have hon : ∀ u v, Only (fun x => x = k) w8 ((w8.setCell ⟨k, 3, none⟩ u).setCell ⟨k, 2, none⟩ v) := fun u v => ((Only.refl _ _).k 3 _).k 2 _
  have FN := D8.fin1 (d' := some q) (run' := rn') (r' := ⟨md', gd', fl', tr', ts', sz', gt'⟩) (.cells #[.bool md', .string gd', .int .i64 fl', .string tr', .int .i64 ts', .int .i64 sz', .string gt'] 83) (hon _ _) (desk_put2 D8.hk rn') (by rw [size_set, size_set]) rfl (someDev Q8 Bq)
  have J9 := (two_far w8 k w4.heap.size (.slice (some ⟨w8.heap.size, 0, none⟩) 1 1) (.int .i64 rn') (.cells #[.bool md', .string gd', .int .i64 fl', .string tr', .int .i64 ts', .int .i64 sz', .string gt'] 83) (ne_of_heap J8 D8.hk (by decide))).trans (alloc_heap J8 _)
  refine (HJU _).mono ?_
  rintro en w10 ⟨rfl, hb10⟩
  have J10 := below_heap hb10 J9
  have D10 := FN.1.below hb10
  have E10 := (E8.trans FN.2).trans (Fr.of hb10 FN.1.size)
  have lJ : w4.heap.size < w10.heap.size := (Array.getElem?_eq_some_iff.1 J10).1
  have nJ : ¬ w4.heap.size = w10.heap.size := by omega
  have c0 : ∀ x, (w10.alloc x).cell? ⟨w4.heap.size, 0, none⟩ = some (.bool jt) := fun x => (jumpC_cells (alloc_heap J10 x)).1
  have c1 : ∀ x, (w10.alloc x).cell? ⟨w4.heap.size, 1, none⟩ = some (.int .i64 ja) := fun x => (jumpC_cells (alloc_heap J10 x)).2.1
  have c2 : ∀ x, (w10.alloc x).cell? ⟨w4.heap.size, 2, none⟩ = some (.int .i64 jb) := fun x => (jumpC_cells (alloc_heap J10 x)).2.2.1
  have c3 : ∀ x, (w10.alloc x).cell? ⟨w4.heap.size, 3, none⟩ = some (.string jc) := fun x => (jumpC_cells (alloc_heap J10 x)).2.2.2.1
  go_wp2_with (go_at_call 45; refine (HSL _).mono ?_; rintro en w11 ⟨rfl, hb11⟩; have J11 := below_heap hb11 (alloc_heap J10 _); have R11 := below_heap hb11 (heap_alloc_new w10 _); obtain ⟨f0, f1, f2, f3, ff⟩ := jumpC_cells J11; obtain ⟨g0, g1, g2, g3, gf⟩ := jumpC_cells R11)
  go_ret
  have D11 := (D10.below ((Below.refl _ _).alloc (Nat.le_refl _) _)).below hb11
  exact ⟨by simp, hFin _ _ D11, (E10.alloc D10.size _).trans (Fr.of hb11 (D10.below ((Below.refl _ _).alloc (Nat.le_refl _) _)).size)⟩
end Go.Proofs.YtcokahccbjdeaaaDoor
