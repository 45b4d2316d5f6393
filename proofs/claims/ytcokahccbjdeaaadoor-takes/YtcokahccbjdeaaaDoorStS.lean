import Derived.Test.YtcokahccbjdeaaaDoorStP
namespace Go.Proofs.YtcokahccbjdeaaaDoor
open Go.RowKit

/-- one step of a script -/
structure OpS where
  kind : Int
  n : Int
  cut : Int
  s : ByteArray
  torn : ByteArray
  which : Bool
def OpS.v (o : OpS) : Value := .agg #[.int .i64 o.kind, .int .i64 o.n, .int .i64 o.cut, .string o.s, .string o.torn, .bool o.which]
def devV : Option Nat → Value
  | none => .pointer none
  | some q => .pointer (some ⟨q, 0, none⟩)
def deskC (b : Nat) (d : Option Nat) (run : Int) (m : Nat) : Array Value := #[.pointer (some ⟨b, 0, none⟩), devV d, .int .i64 run, .slice (some ⟨m, 0, none⟩) 1 1]
/-- A desk: its chip, its device, what runs, what the chip holds. -/
structure Desk (B : Nat) (w : World) (k b g m : Nat) (c : ChipS) (d : Option Nat) (run : Int) (r : RefS) : Prop where
  hk : w.heap[k]? = some (.cells (deskC b d run m) 86 (0, 0))
  dv : Dv w b g c
  hm : w.heap[m]? = some (.cells r.cs 83 (0, 0))
  hd : ∀ q, d = some q → w.heap[q]? = some (.cells (devC b run) 76 (0, 0)) ∧ B ≤ q
  Bk : B ≤ k
  Bb : B ≤ b
  Bg : B ≤ g
  Bm : B ≤ m
  B1 : 1 ≤ B
theorem desk_cells {w : World} {k b m : Nat} {d : Option Nat} {run : Int} (H : w.heap[k]? = some (.cells (deskC b d run m) 86 (0, 0))) :
    w.cell? ⟨k, 0, none⟩ = some (.pointer (some ⟨b, 0, none⟩)) ∧ w.cell? ⟨k, 1, none⟩ = some (devV d) ∧ w.cell? ⟨k, 2, none⟩ = some (.int .i64 run) ∧ w.cell? ⟨k, 3, none⟩ = some (.slice (some ⟨m, 0, none⟩) 1 1) ∧ (∀ o, w.frozen? ⟨k, o, none⟩ = false) := by
  refine ⟨?_, ?_, ?_, ?_, fun o => free_of_heap H⟩ <;> (rw [cell_of_heap H]; rfl)
theorem Desk.lt {B : Nat} {w : World} {k b g m : Nat} {c : ChipS} {d : Option Nat} {run : Int} {r : RefS} (D : Desk B w k b g m c d run r) : k < w.heap.size ∧ b < w.heap.size ∧ g < w.heap.size ∧ m < w.heap.size :=
  ⟨(Array.getElem?_eq_some_iff.1 D.hk).1, (Array.getElem?_eq_some_iff.1 D.dv.chip.hb).1, (Array.getElem?_eq_some_iff.1 D.dv.chip.hg).1, (Array.getElem?_eq_some_iff.1 D.hm).1⟩
theorem ne_of_heap {w : World} {i j : Nat} {a c : Array Value} {t u : TypeId} {f f' : Nat × Nat} (h1 : w.heap[i]? = some (.cells a t f)) (h2 : w.heap[j]? = some (.cells c u f')) (h : t ≠ u) : i ≠ j := by
  intro e; subst e; rw [h1] at h2; simp at h2; exact h h2.2.1
theorem Desk.ne {B : Nat} {w : World} {k b g m : Nat} {c : ChipS} {d : Option Nat} {run : Int} {r : RefS} (D : Desk B w k b g m c d run r) : k ≠ b ∧ k ≠ g ∧ k ≠ m ∧ m ≠ b ∧ m ≠ g ∧ (∀ q, d = some q → q ≠ b ∧ q ≠ g ∧ q ≠ k ∧ q ≠ m) :=
  ⟨ne_of_heap D.hk D.dv.chip.hb (by decide), ne_of_heap D.hk D.dv.chip.hg (by decide), ne_of_heap D.hk D.hm (by decide), ne_of_heap D.hm D.dv.chip.hb (by decide), ne_of_heap D.hm D.dv.chip.hg (by decide), fun q hq => by
    have h := (D.hd q hq).1
    exact ⟨ne_of_heap h D.dv.chip.hb (by decide), ne_of_heap h D.dv.chip.hg (by decide), ne_of_heap h D.hk (by decide), ne_of_heap h D.hm (by decide)⟩⟩
/-- New blocks alone: the desk stands. -/
theorem Desk.below {B : Nat} {w w' : World} {k b g m : Nat} {c : ChipS} {d : Option Nat} {run : Int} {r : RefS} (D : Desk B w k b g m c d run r) (hb : Below w.heap.size w w') : Desk B w' k b g m c d run r :=
  ⟨below_heap hb D.hk, D.dv.below hb, below_heap hb D.hm, fun q hq => ⟨below_heap hb (D.hd q hq).1, (D.hd q hq).2⟩, D.Bk, D.Bb, D.Bg, D.Bm, D.B1⟩
/-- The chip alone is changed. -/
theorem Desk.chip {B : Nat} {w w' : World} {k b g m : Nat} {c c' : ChipS} {d : Option Nat} {run : Int} {r : RefS} (D : Desk B w k b g m c d run r) (hc : ChipAt w' b g c') (ho : Only (fun x => x = b ∨ x = g) w w') : Desk B w' k b g m c' d run r := by
  obtain ⟨n1, n2, n3, n4, n5, n6⟩ := D.ne
  refine ⟨ho.heap D.hk (by rintro (e | e); exact n1 e; exact n2 e), D.dv.only hc ho, ho.heap D.hm (by rintro (e | e); exact n4 e; exact n5 e), fun q hq => ⟨ho.heap (D.hd q hq).1 (by rintro (e | e); exact (n6 q hq).1 e; exact (n6 q hq).2.1 e), (D.hd q hq).2⟩, D.Bk, D.Bb, D.Bg, D.Bm, D.B1⟩
/-- Below B all is as it was; and so is every row of pointers to desks. -/
structure Fr (B : Nat) (w w' : World) : Prop where
  bel : Below B w w'
  keep : ∀ (R : Nat) (x : Array Value), w.heap[R]? = some (.cells x 47 (0, 0)) → w'.heap[R]? = some (.cells x 47 (0, 0))
theorem Fr.refl (B : Nat) (w : World) : Fr B w w := ⟨Below.refl _ _, fun _ _ h => h⟩
theorem Fr.trans {B : Nat} {a b c : World} (h : Fr B a b) (k : Fr B b c) : Fr B a c := ⟨h.bel.trans k.bel, fun R x e => k.keep R x (h.keep R x e)⟩
theorem Fr.of {B : Nat} {w w' : World} (h : Below w.heap.size w w') (hB : B ≤ w.heap.size) : Fr B w w' := ⟨h.mono hB, fun _ _ e => below_heap h e⟩
theorem Fr.alloc {B : Nat} {a w : World} (h : Fr B a w) (hB : B ≤ w.heap.size) (o : Obj) : Fr B a (w.alloc o) := h.trans (Fr.of ((Below.refl _ _).alloc (Nat.le_refl _) o) hB)
theorem Fr.k {B : Nat} {w w' : World} {k : Nat} {c : Array Value} (h : Only (fun x => x = k) w w') (hk : w.heap[k]? = some (.cells c 86 (0, 0))) (hB : B ≤ k) (hs : B ≤ w.heap.size) : Fr B w w' :=
  ⟨h.below hs (fun _ hx => hx ▸ hB), fun _ _ e => h.heap e (ne_of_heap e hk (by decide))⟩
theorem Desk.onlyB {B : Nat} {w w' : World} {k b g m : Nat} {c : ChipS} {d : Option Nat} {run : Int} {r : RefS} (D : Desk B w k b g m c d run r) (ho : Only (fun x => x = b ∨ x = g) w w') : Fr B w w' :=
  ⟨ho.below (by have := D.lt; have := D.Bk; omega) (fun x hx => by rcases hx with e | e; exact e ▸ D.Bb; exact e ▸ D.Bg), fun _ _ e => ho.heap e (fun hx => by rcases hx with q | q; exact ne_of_heap e D.dv.chip.hb (by decide) q; exact ne_of_heap e D.dv.chip.hg (by decide) q)⟩
theorem Desk.size {B : Nat} {w : World} {k b g m : Nat} {c : ChipS} {d : Option Nat} {run : Int} {r : RefS} (D : Desk B w k b g m c d run r) : B ≤ w.heap.size := by have := D.lt; have := D.Bk; omega
theorem Desk.onlyK {B : Nat} {w w' : World} {k b g m : Nat} {c : ChipS} {d : Option Nat} {run : Int} {r : RefS} (D : Desk B w k b g m c d run r) (ho : Only (fun x => x = k) w w') : Fr B w w' := Fr.k ho D.hk D.Bk D.size
/-- The desk itself is written into, and its row may be a new one. -/
theorem Desk.set {B : Nat} {w w' : World} {k b g m m' : Nat} {c : ChipS} {d d' : Option Nat} {run run' : Int} {r r' : RefS} (D : Desk B w k b g m c d run r) (hk : w'.heap[k]? = some (.cells (deskC b d' run' m') 86 (0, 0)))
    (ho : Only (fun x => x = k) w w') (hm : w'.heap[m']? = some (.cells r'.cs 83 (0, 0))) (hBm : B ≤ m') (hd : ∀ q, d' = some q → w'.heap[q]? = some (.cells (devC b run') 76 (0, 0)) ∧ B ≤ q) : Desk B w' k b g m' c d' run' r' := by
  obtain ⟨n1, n2, n3, n4, n5, n6⟩ := D.ne
  have hc : ChipAt w' b g c := by
    have h := D.dv.chip
    exact ⟨ho.heap h.hb (fun e => n1 e.symm), ho.heap h.hg (fun e => n2 e.symm), h.len, h.ops0, h.left1, h.left0, h.tn⟩
  have ht : TurnsAt w' := D.dv.turns.only ho (fun e => by have := D.Bk; have := D.B1; omega)
  exact ⟨hk, ⟨hc, ht, D.dv.b0, D.dv.g0⟩, hm, hd, D.Bk, D.Bb, D.Bg, hBm, D.B1⟩

set_option maxRecDepth 100000 in
theorem sure_any (w : World) (B k b g m : Nat) (c : ChipS) (d : Option Nat) (run : Int) (r : RefS) (D : Desk B w k b g m c d run r) :
    Calls Tryd.prog 36 #[.pointer (some ⟨k, 0, none⟩)] w fun e w' => e = .returned (.bool true) ∧ w' = w := by
  obtain ⟨q0, q1, q2, q3, qf⟩ := desk_cells D.hk
  clear D
  go_enter Tryd.func36, Tryd.ntmps36
  go_wp2
  go_ret
  exact ⟨rfl, rfl⟩
set_option maxRecDepth 100000 in
theorem armed_no (w : World) (k : Nat) (o : OpS) :
    Calls Tryd.prog 39 #[.pointer (some ⟨k, 0, none⟩), o.v, .bool false] w fun e w' => e = .returned (.tuple #[]) ∧ Below w.heap.size w w' := by
  obtain ⟨kd, n, ct, s, tn, wh⟩ := o
  simp only [OpS.v]
  go_enter Tryd.func39, Tryd.ntmps39
  go_wp2
  refine bodyPost_end (results_none rfl _ _ _) rfl ⟨rfl, (Below.refl _ _).alloc (Nat.le_refl _) _⟩
set_option maxRecDepth 100000 in
set_option maxHeartbeats 2000000 in
theorem spent_no (w : World) (B k b g m : Nat) (c : ChipS) (d : Option Nat) (run : Int) (r : RefS) (n : Int) (o : OpS) (D : Desk B w k b g m c d run r) (hdead : c.dead = false) (h1 : n ≤ c.ops) (h2 : c.ops ≤ n + 64) :
    Calls Tryd.prog 41 #[.pointer (some ⟨k, 0, none⟩), .int .i64 n, o.v, .bool false] w fun e w' => e = .returned (.bool true) ∧ Below w.heap.size w w' := by
  have HO := fun wx (hb : Below w.heap.size w wx) => ops_any wx b g c (D.dv.chip.below hb)
  have HD := fun wx (hb : Below w.heap.size w wx) => dead_any wx b g c (D.dv.chip.below hb)
  rw [hdead] at HD
  have hb1 : ∀ x, Below w.heap.size w (w.alloc x) := fun x => (Below.refl _ _).alloc (Nat.le_refl _) x
  have Q := fun x => desk_cells (alloc_heap D.hk x)
  have q0 : ∀ x, (w.alloc x).cell? ⟨k, 0, none⟩ = some (.pointer (some ⟨b, 0, none⟩)) := fun x => (Q x).1
  obtain ⟨kd, nn, ct, s, tn, wh⟩ := o
  simp only [OpS.v]
  generalize c.ops = p at *
  clear Q D
  go_enter Tryd.func41, Tryd.ntmps41
  go_wp2_with (first
    | (go_at_call 38; refine (HO _ (hb1 _)).mono ?_; rintro en w2 ⟨rfl, rfl⟩)
    | (go_at_call 42; refine (HD _ (hb1 _)).mono ?_; rintro en w2 ⟨rfl, rfl⟩))
  go_ret
  exact ⟨rfl, hb1 _⟩
end Go.Proofs.YtcokahccbjdeaaaDoor
