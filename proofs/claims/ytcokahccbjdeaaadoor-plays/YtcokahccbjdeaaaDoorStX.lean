import Derived.Test.YtcokahccbjdeaaaDoorStU
import Derived.Test.YtcokahccbjdeaaaDoorStR
namespace Go.Proofs.YtcokahccbjdeaaaDoor
open Go.RowKit

def OpS.cs (o : OpS) : Array Value := #[.int .i64 o.kind, .int .i64 o.n, .int .i64 o.cut, .string o.s, .string o.torn, .bool o.which]
theorem op_cells {w : World} {p : Nat} {o : OpS} (H : w.heap[p]? = some (.cells o.cs 50 (0, 0))) :
    w.cell? ⟨p, 0, none⟩ = some (.int .i64 o.kind) ∧ w.cell? ⟨p, 1, none⟩ = some (.int .i64 o.n) ∧ w.cell? ⟨p, 2, none⟩ = some (.int .i64 o.cut) ∧ w.cell? ⟨p, 3, none⟩ = some (.string o.s) ∧ w.cell? ⟨p, 4, none⟩ = some (.string o.torn) ∧ w.cell? ⟨p, 5, none⟩ = some (.bool o.which) ∧ (∀ x, w.frozen? ⟨p, x, none⟩ = false) := by
  refine ⟨?_, ?_, ?_, ?_, ?_, ?_, fun x => free_of_heap H⟩ <;> (rw [cell_of_heap H]; rfl)
theorem Live.restore {c : ChipS} (h : Live c) : c.restore = c := by
  obtain ⟨a, b, d, e, f, g⟩ := c
  have h1 := h.dead; have h2 := h.armed
  simp only at h1 h2
  simp [ChipS.restore, h1, h2]
/-- A desk of which nothing is said of the device. -/
structure DeskW (B : Nat) (w : World) (k b g m : Nat) (c : ChipS) (d : Option Nat) (run : Int) (r : RefS) : Prop where
  hk : w.heap[k]? = some (.cells (deskC b d run m) 86 (0, 0))
  dv : Dv w b g c
  hm : w.heap[m]? = some (.cells r.cs 83 (0, 0))
  Bk : B ≤ k
  Bb : B ≤ b
  Bg : B ≤ g
  Bm : B ≤ m
  B1 : 1 ≤ B
theorem Desk.weak {B : Nat} {w : World} {k b g m : Nat} {c : ChipS} {d : Option Nat} {run : Int} {r : RefS} (D : Desk B w k b g m c d run r) : DeskW B w k b g m c d run r := ⟨D.hk, D.dv, D.hm, D.Bk, D.Bb, D.Bg, D.Bm, D.B1⟩
theorem DeskW.lt {B : Nat} {w : World} {k b g m : Nat} {c : ChipS} {d : Option Nat} {run : Int} {r : RefS} (D : DeskW B w k b g m c d run r) : k < w.heap.size ∧ b < w.heap.size ∧ g < w.heap.size ∧ m < w.heap.size :=
  ⟨(Array.getElem?_eq_some_iff.1 D.hk).1, (Array.getElem?_eq_some_iff.1 D.dv.chip.hb).1, (Array.getElem?_eq_some_iff.1 D.dv.chip.hg).1, (Array.getElem?_eq_some_iff.1 D.hm).1⟩
theorem DeskW.size {B : Nat} {w : World} {k b g m : Nat} {c : ChipS} {d : Option Nat} {run : Int} {r : RefS} (D : DeskW B w k b g m c d run r) : B ≤ w.heap.size := by have := D.lt; have := D.Bk; omega
theorem DeskW.below {B : Nat} {w w' : World} {k b g m : Nat} {c : ChipS} {d : Option Nat} {run : Int} {r : RefS} (D : DeskW B w k b g m c d run r) (hb : Below w.heap.size w w') : DeskW B w' k b g m c d run r :=
  ⟨below_heap hb D.hk, D.dv.below hb, below_heap hb D.hm, D.Bk, D.Bb, D.Bg, D.Bm, D.B1⟩
/-- No device is open any more. -/
theorem DeskW.unset {B : Nat} {w : World} {k b g m : Nat} {c : ChipS} {d : Option Nat} {run : Int} {r : RefS} (D : DeskW B w k b g m c d run r) : Desk B (w.setCell ⟨k, 1, none⟩ (.pointer none)) k b g m c none run r := by
  have ho : Only (fun x => x = k) w (w.setCell ⟨k, 1, none⟩ (.pointer none)) := (Only.refl _ _).k 1 _
  have hc : ChipAt (w.setCell ⟨k, 1, none⟩ (.pointer none)) b g c := by
    have h := D.dv.chip
    exact ⟨ho.heap h.hb (ne_of_heap h.hb D.hk (by decide)), ho.heap h.hg (ne_of_heap h.hg D.hk (by decide)), h.len, h.ops0, h.left1, h.left0, h.tn⟩
  refine ⟨?_, ⟨hc, D.dv.turns.only ho (fun e => by have := D.Bk; have := D.B1; omega), D.dv.b0, D.dv.g0⟩, ho.heap D.hm (ne_of_heap D.hm D.hk (by decide)), noDev b run, D.Bk, D.Bb, D.Bg, D.Bm, D.B1⟩
  rw [heap_setCell_at _ _ _ _ _ _ _ D.hk]; rfl
theorem DeskW.unsetB {B : Nat} {w : World} {k b g m : Nat} {c : ChipS} {d : Option Nat} {run : Int} {r : RefS} (D : DeskW B w k b g m c d run r) : Fr B w (w.setCell ⟨k, 1, none⟩ (.pointer none)) :=
  Fr.k ((Only.refl _ _).k 1 _) D.hk D.Bk D.size
theorem Desk.new_ne {B : Nat} {w : World} {k b g m : Nat} {c : ChipS} {d : Option Nat} {run : Int} {r : RefS} (D : Desk B w k b g m c d run r) {q : Nat} (h : w.heap.size ≤ q) : ¬ (q = b ∨ q = g) := by
  have := D.lt; omega
set_option maxRecDepth 100000 in
set_option maxHeartbeats 8000000 in
theorem opens_none (w : World) (B k b g m : Nat) (c : ChipS) (d : Option Nat) (run : Int) (r : RefS) (o : OpS) (D : DeskW B w k b g m c d run r) (L : Live c) (hl : loadM c.cells = none) (hr : r.made = false) :
    Calls Tryd.prog 33 #[.pointer (some ⟨k, 0, none⟩), o.v, .bool false] w fun e w' => e = .returned (.bool true) ∧ (∃ m', Desk B w' k b g m' c none run r) ∧ Fr B w w' := by
  have HA := fun wx => armed_no wx k o
  have HS := fun wx (D : Desk B wx k b g m c none run r) => spent_no wx B k b g m c none run r c.ops o D L.dead (Int.le_refl _) (by omega)
  have HR : ∀ wx, Desk B wx k b g m c none run r → Calls Tryd.prog 43 #[.pointer (some ⟨b, 0, none⟩)] wx fun e w' => e = .returned (.tuple #[]) ∧ Desk B w' k b g m c none run r ∧ Only (fun x => x = b ∨ x = g) wx w' := by
    intro wx D
    refine (restore_any wx b g c D.dv.chip).mono ?_
    rintro e w' ⟨rfl, h1, h2, _⟩
    rw [L.restore] at h1
    exact ⟨rfl, D.chip h1 h2, h2⟩
  have HD := fun wx (D : Desk B wx k b g m c none run r) => dead_any wx b g c D.dv.chip
  rw [L.dead] at HD
  have HOP := fun wx (D : Desk B wx k b g m c none run r) => open_none wx b g c D.dv hl
  have HF := fun wx (D : Desk B wx k b g m c none run r) => fresh_none wx B k b g m c none run r D hr
  have D1 : ∀ x, Desk B ((w.setCell ⟨k, 1, none⟩ (.pointer none)).alloc x) k b g m c none run r := fun x => D.unset.below ((Below.refl _ _).alloc (Nat.le_refl _) x)
  have E1 : ∀ x, Fr B w ((w.setCell ⟨k, 1, none⟩ (.pointer none)).alloc x) := fun x => D.unsetB.alloc (by rw [size_set]; exact D.size) x
  have hkl : k < w.heap.size := D.lt.1
  have hkn : ¬ k = w.heap.size := by omega
  have hkn2 : ¬ w.heap.size = k := by omega
  have hbl : b < w.heap.size := D.lt.2.1
  have hgl : g < w.heap.size := D.lt.2.2.1
  have nbg : ¬ (w.heap.size = b ∨ w.heap.size = g) := by omega
  have O1 : ((w.setCell ⟨k, 1, none⟩ (.pointer none)).alloc (.cells o.cs 50)).heap[w.heap.size]? = some (.cells o.cs 50 (0, 0)) := by
    have := heap_alloc_new (w.setCell ⟨k, 1, none⟩ (.pointer none)) (.cells o.cs 50)
    rw [size_set] at this; exact this
  obtain ⟨q0, q1, q2, q3, qf⟩ := desk_cells D.hk
  have Q := fun x => desk_cells (alloc_heap D.hk x)
  have f1 : ∀ x, (w.alloc x).cell? ⟨k, 1, none⟩ = some (devV d) := fun x => (Q x).2.1
  have ff : ∀ x y, (w.alloc x).frozen? ⟨k, y, none⟩ = false := fun x => (Q x).2.2.2.2
  have g0 : ∀ x, ((w.setCell ⟨k, 1, none⟩ (.pointer none)).alloc x).cell? ⟨k, 0, none⟩ = some (.pointer (some ⟨b, 0, none⟩)) := fun x => (desk_cells (D1 x).hk).1
  obtain ⟨kd, n, ct, s, tn, wh⟩ := o
  obtain ⟨z0, z1, z2, z3, z4, z5, zf⟩ := op_cells (o := ⟨kd, n, ct, s, tn, wh⟩) O1
  simp only [OpS.v, OpS.cs] at *
  have HO := fun x => ops_any ((w.setCell ⟨k, 1, none⟩ (.pointer none)).alloc x) b g c (D1 x).dv.chip
  clear D Q
  go_enter Tryd.func33, Tryd.ntmps33
  go_wp2_with (first
    | (go_at_call 38; refine (HO _).mono ?_; rintro en w2 ⟨rfl, rfl⟩)
    | (go_at_call 39; refine (HA _).mono ?_; rintro en w3 ⟨rfl, hb3⟩; have D3 := (D1 _).below hb3; have O3 := below_heap hb3 O1; have E3 := (E1 _).trans (Fr.of hb3 (D1 _).size); have u0 := (desk_cells D3.hk).1)
    | (go_at_call 31; refine (HOP _ D3).mono ?_; rintro en w4 ⟨rfl, hb4⟩; have D4 := D3.below hb4; have O4 := below_heap hb4 O3; have E4 := E3.trans (Fr.of hb4 D3.size); obtain ⟨y0, y1, y2, y3, y4, y5, yf⟩ := op_cells (o := ⟨kd, n, ct, s, tn, wh⟩) O4; simp only at y0 y1 y2 y3 y4 y5)
    | (go_at_call 41; refine (HS _ D4).mono ?_; rintro en w5 ⟨rfl, hb5⟩; have D5 := D4.below hb5; have O5 := below_heap hb5 O4; have E5 := E4.trans (Fr.of hb5 D4.size); have x0 := (desk_cells D5.hk).1)
    | (go_at_call 42; refine (HD _ D5).mono ?_; rintro en w6 ⟨rfl, rfl⟩)
    | (go_at_call 43; refine (HR _ D5).mono ?_; rintro en w7 ⟨rfl, D7, ho7⟩; have E7 := E5.trans (D5.onlyB ho7))
    | (go_at_call 59; refine (HF _ D7).mono ?_; rintro en w8 ⟨rfl, hD8, hb8⟩))
  go_ret
  exact ⟨rfl, hD8, E7.trans hb8⟩
set_option maxRecDepth 100000 in
set_option maxHeartbeats 8000000 in
theorem opens_some (w : World) (B k b g m : Nat) (c : ChipS) (d : Option Nat) (run : Int) (r : RefS) (o : OpS) (D : DeskW B w k b g m c d run r) (L : Live c) (hl : loadM c.cells = some r.h) (hr : r.made = true) :
    Calls Tryd.prog 33 #[.pointer (some ⟨k, 0, none⟩), o.v, .bool false] w fun e w' => e = .returned (.bool true) ∧ (∃ m' q, Desk B w' k b g m' c (some q) 0 r) ∧ Fr B w w' := by
  have HA := fun wx => armed_no wx k o
  have HS := fun wx (D : Desk B wx k b g m c none run r) => spent_no wx B k b g m c none run r c.ops o D L.dead (Int.le_refl _) (by omega)
  have HR : ∀ wx, Desk B wx k b g m c none run r → Calls Tryd.prog 43 #[.pointer (some ⟨b, 0, none⟩)] wx fun e w' => e = .returned (.tuple #[]) ∧ Desk B w' k b g m c none run r ∧ Only (fun x => x = b ∨ x = g) wx w' := by
    intro wx D
    refine (restore_any wx b g c D.dv.chip).mono ?_
    rintro e w' ⟨rfl, h1, h2, _⟩
    rw [L.restore] at h1
    exact ⟨rfl, D.chip h1 h2, h2⟩
  have HD := fun wx (D : Desk B wx k b g m c none run r) => dead_any wx b g c D.dv.chip
  rw [L.dead] at HD
  have HOP := fun wx (D : Desk B wx k b g m c none run r) => open_some wx b g c r.h D.dv hl
  have HF := fun wx q (D : Desk B wx k b g m c none run r) (hq : wx.heap[q]? = some (.cells (devC b 0) 76 (0, 0))) (hB : B ≤ q) => fresh_some wx B k b g m q c none run r D hr hq hB
  have D1 : ∀ x, Desk B ((w.setCell ⟨k, 1, none⟩ (.pointer none)).alloc x) k b g m c none run r := fun x => D.unset.below ((Below.refl _ _).alloc (Nat.le_refl _) x)
  have E1 : ∀ x, Fr B w ((w.setCell ⟨k, 1, none⟩ (.pointer none)).alloc x) := fun x => D.unsetB.alloc (by rw [size_set]; exact D.size) x
  have hkl : k < w.heap.size := D.lt.1
  have hkn : ¬ k = w.heap.size := by omega
  have hkn2 : ¬ w.heap.size = k := by omega
  have hbl : b < w.heap.size := D.lt.2.1
  have hgl : g < w.heap.size := D.lt.2.2.1
  have nbg : ¬ (w.heap.size = b ∨ w.heap.size = g) := by omega
  have O1 : ((w.setCell ⟨k, 1, none⟩ (.pointer none)).alloc (.cells o.cs 50)).heap[w.heap.size]? = some (.cells o.cs 50 (0, 0)) := by
    have := heap_alloc_new (w.setCell ⟨k, 1, none⟩ (.pointer none)) (.cells o.cs 50)
    rw [size_set] at this; exact this
  obtain ⟨q0, q1, q2, q3, qf⟩ := desk_cells D.hk
  have Q := fun x => desk_cells (alloc_heap D.hk x)
  have f1 : ∀ x, (w.alloc x).cell? ⟨k, 1, none⟩ = some (devV d) := fun x => (Q x).2.1
  have ff : ∀ x y, (w.alloc x).frozen? ⟨k, y, none⟩ = false := fun x => (Q x).2.2.2.2
  have g0 : ∀ x, ((w.setCell ⟨k, 1, none⟩ (.pointer none)).alloc x).cell? ⟨k, 0, none⟩ = some (.pointer (some ⟨b, 0, none⟩)) := fun x => (desk_cells (D1 x).hk).1
  obtain ⟨kd, n, ct, s, tn, wh⟩ := o
  obtain ⟨z0, z1, z2, z3, z4, z5, zf⟩ := op_cells (o := ⟨kd, n, ct, s, tn, wh⟩) O1
  simp only [OpS.v, OpS.cs] at *
  have HO := fun x => ops_any ((w.setCell ⟨k, 1, none⟩ (.pointer none)).alloc x) b g c (D1 x).dv.chip
  clear D Q
  go_enter Tryd.func33, Tryd.ntmps33
  go_wp2_with (first
    | (go_at_call 38; refine (HO _).mono ?_; rintro en w2 ⟨rfl, rfl⟩)
    | (go_at_call 39; refine (HA _).mono ?_; rintro en w3 ⟨rfl, hb3⟩; have D3 := (D1 _).below hb3; have O3 := below_heap hb3 O1; have E3 := (E1 _).trans (Fr.of hb3 (D1 _).size); have u0 := (desk_cells D3.hk).1)
    | (go_at_call 31; refine (HOP _ D3).mono ?_; rintro en w4 ⟨q, rfl, hq, hdv, hb4⟩; have D4 := D3.below hb4; have O4 := below_heap hb4 O3; have E4 := E3.trans (Fr.of hb4 D3.size); have hBq := Nat.le_trans D3.size hq; have nq := (D3.new_ne hq); obtain ⟨y0, y1, y2, y3, y4, y5, yf⟩ := op_cells (o := ⟨kd, n, ct, s, tn, wh⟩) O4; simp only at y0 y1 y2 y3 y4 y5)
    | (go_at_call 41; refine (HS _ D4).mono ?_; rintro en w5 ⟨rfl, hb5⟩; have hdv5 := below_heap hb5 hdv; have D5 := D4.below hb5; have O5 := below_heap hb5 O4; have E5 := E4.trans (Fr.of hb5 D4.size); have x0 := (desk_cells D5.hk).1)
    | (go_at_call 42; refine (HD _ D5).mono ?_; rintro en w6 ⟨rfl, rfl⟩)
    | (go_at_call 43; refine (HR _ D5).mono ?_; rintro en w7 ⟨rfl, D7, ho7⟩; have hdv7 := ho7.heap hdv5 nq; have E7 := E5.trans (D5.onlyB ho7))
    | (go_at_call 59; refine (HF _ q D7 hdv7 hBq).mono ?_; rintro en w8 ⟨rfl, hD8, hb8⟩))
  go_ret
  exact ⟨rfl, ⟨hD8.choose, q, hD8.choose_spec⟩, E7.trans hb8⟩
end Go.Proofs.YtcokahccbjdeaaaDoor
