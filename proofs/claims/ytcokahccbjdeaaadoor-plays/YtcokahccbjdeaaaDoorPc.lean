import Derived.Test.YtcokahccbjdeaaaDoorStZ
import Derived.Test.YtcokahccbjdeaaaDoorStY
namespace Go.Proofs.YtcokahccbjdeaaaDoor
open Go.RowKit

theorem Inv.up {B N M : Nat} {w : World} {k b g m : Nat} {c : ChipS} {d : Option Nat} {run : Int} {r : RefS} (I : Inv B N w k b g m c d run r) (h : N ≤ M) : Inv B M w k b g m c d run r := ⟨I.D, I.rel, I.dm, by have := I.ops; omega, I.hg, I.runs⟩
structure InvW (B N : Nat) (w : World) (k b g m : Nat) (c : ChipS) (d : Option Nat) (run : Int) (r : RefS) : Prop where
  D : DeskW B w k b g m c d run r
  rel : Rel c r
  ops : c.ops ≤ N
  hg : r.h.got.size ≤ 1048576
  runs : Runs run r
theorem Inv.weak {B N : Nat} {w : World} {k b g m : Nat} {c : ChipS} {d : Option Nat} {run : Int} {r : RefS} (I : Inv B N w k b g m c d run r) : InvW B N w k b g m c d run r := ⟨I.D.weak, I.rel, I.ops, I.hg, I.runs⟩
set_option maxRecDepth 100000 in
set_option maxHeartbeats 8000000 in
theorem step_open (w : World) (B N k b g m : Nat) (c : ChipS) (d : Option Nat) (run : Int) (r : RefS) (n ct : Int) (s tn : ByteArray) (wh : Bool) (I : InvW B N w k b g m c d run r) :
    Calls Tryd.prog 16 #[.pointer (some ⟨k, 0, none⟩), OpS.v ⟨1, n, ct, s, tn, wh⟩, .bool false] w fun e w' => e = .returned (.bool true) ∧ Good B (N + 64) w' k ∧ Fr B w w' := by
  have hb1 : ∀ x, Below w.heap.size w (w.alloc x) := fun x => (Below.refl _ _).alloc (Nat.le_refl _) x
  have HX : ∀ x, Calls Tryd.prog 33 #[.pointer (some ⟨k, 0, none⟩), OpS.v ⟨1, n, ct, s, tn, wh⟩, .bool false] (w.alloc x) fun e w' => e = .returned (.bool true) ∧ Good B (N + 64) w' k ∧ Fr B (w.alloc x) w' := by
    intro x
    have D := I.D.below (hb1 x)
    cases hm : r.made
    · refine (opens_none (w.alloc x) B k b g m c d run r _ D I.rel.live (I.rel.no hm) hm).mono ?_
      rintro e w' ⟨rfl, ⟨m', D'⟩, hb⟩
      exact ⟨rfl, ⟨b, g, m', c, none, run, r, D', I.rel, (fun h => by cases h), (by have := I.ops; omega), I.hg, I.runs⟩, hb⟩
    · refine (opens_some (w.alloc x) B k b g m c d run r _ D I.rel.live (I.rel.yes hm).1 hm).mono ?_
      rintro e w' ⟨rfl, ⟨m', q, D'⟩, hb⟩
      exact ⟨rfl, ⟨b, g, m', c, some q, 0, r, D', I.rel, (fun _ => hm), (by have := I.ops; omega), I.hg, ⟨fun _ => rfl, fun e => by omega⟩⟩, hb⟩
  have hE : ∀ x, Fr B w (w.alloc x) := fun x => (Fr.refl _ _).alloc I.D.size x
  simp only [OpS.v] at *
  clear I
  go_enter Tryd.func16, Tryd.ntmps16
  go_wp2_with (go_at_call 33; refine (HX _).mono ?_; rintro en w2 ⟨rfl, hG, hb2⟩)
  go_ret
  exact ⟨rfl, hG, (hE _).trans hb2⟩

theorem Desk.move {B : Nat} {w w2 : World} {k b g m b' g' : Nat} {c c' : ChipS} {d : Option Nat} {run : Int} {r : RefS} (D : Desk B w k b g m c d run r) (hb : Below w.heap.size w w2) (V : Dv w2 b' g' c') (h1 : w.heap.size ≤ b') (h2 : w.heap.size ≤ g') :
    Desk B ((w2.setCell ⟨k, 0, none⟩ (.pointer (some ⟨b', 0, none⟩))).setCell ⟨k, 1, none⟩ (.pointer none)) k b' g' m c' none run r ∧ Fr B w ((w2.setCell ⟨k, 0, none⟩ (.pointer (some ⟨b', 0, none⟩))).setCell ⟨k, 1, none⟩ (.pointer none)) := by
  have lt := D.lt
  have sz := D.size
  have ne := D.ne
  have ho : Only (fun x => x = k) w2 ((w2.setCell ⟨k, 0, none⟩ (.pointer (some ⟨b', 0, none⟩))).setCell ⟨k, 1, none⟩ (.pointer none)) := ((Only.refl _ _).k 0 _).k 1 _
  have B1 := D.B1; have Bk := D.Bk
  refine ⟨⟨?_, ⟨⟨ho.heap V.chip.hb (by omega), ho.heap V.chip.hg (by omega), V.chip.len, V.chip.ops0, V.chip.left1, V.chip.left0, V.chip.tn⟩, V.turns.only ho (by omega), V.b0, V.g0⟩, ho.heap (below_heap hb D.hm) (fun e => ne.2.2.1 e.symm), noDev b' run, Bk, by omega, by omega, D.Bm, B1⟩, (Fr.of hb sz).trans (Fr.k ho (below_heap hb D.hk) Bk (Nat.le_trans sz hb.size))⟩
  rw [heap_setCell_at _ _ _ _ _ _ _ (heap_setCell_at _ _ _ _ _ _ _ (below_heap hb D.hk))]; rfl
theorem Rel.moved {c : ChipS} {r : RefS} (h : Rel c r) : Rel (movedM c.cells) r ∧ (movedM c.cells).ops ≤ 128 := by
  obtain ⟨L, e⟩ := moved_ok c.cells h.live.len
  refine ⟨⟨L, fun hm => by rw [e]; exact h.no hm, fun hm => by rw [e]; exact h.yes hm⟩, ?_⟩
  have := (prims_ops newChip (piecesN 0 c.cells 128)).1
  have hl : (piecesN 0 c.cells 128).length = 128 := by simp [piecesN]
  have h0 : newChip.ops = 0 := rfl
  unfold movedM
  omega
set_option maxRecDepth 100000 in
set_option maxHeartbeats 8000000 in
theorem step_move (w : World) (B N k b g m : Nat) (c : ChipS) (d : Option Nat) (run : Int) (r : RefS) (n ct : Int) (s tn : ByteArray) (wh : Bool) (I : Inv B N w k b g m c d run r) (hN : 64 ≤ N) :
    Calls Tryd.prog 16 #[.pointer (some ⟨k, 0, none⟩), OpS.v ⟨11, n, ct, s, tn, wh⟩, .bool false] w fun e w' => e = .returned (.bool true) ∧ Good B (N + 64) w' k ∧ Fr B w w' := by
  have hb1 : ∀ x, Below w.heap.size w (w.alloc x) := fun x => (Below.refl _ _).alloc (Nat.le_refl _) x
  have D1 := fun x => I.D.below (hb1 x)
  have HM := fun x => moved_any (w.alloc x) b g c (D1 x).dv
  have u0 : ∀ x, (w.alloc x).cell? ⟨k, 0, none⟩ = some (.pointer (some ⟨b, 0, none⟩)) := fun x => (desk_cells (D1 x).hk).1
  have hE : ∀ x, Fr B w (w.alloc x) := fun x => (Fr.refl _ _).alloc I.D.size x
  obtain ⟨hrel, hop⟩ := I.rel.moved
  have HI : Hid (Inv B N w k b g m c d run r) := I
  simp only [OpS.v] at *
  clear I
  go_enter Tryd.func16, Tryd.ntmps16
  go_wp2_with (go_at_call 34; refine (HM _).mono ?_; rintro en w2 ⟨b', g', rfl, hV, h1, h2, hb2⟩; have hk2 := below_heap hb2 (D1 _).hk; obtain ⟨a0, a1, a2, a3, af⟩ := desk_cells hk2)
  go_ret
  have FN := (D1 _).move hb2 hV h1 h2
  exact ⟨rfl, ⟨b', g', m, _, none, run, r, FN.1, hrel, (fun h => by cases h), (by omega), HI.out.hg, HI.out.runs⟩, (hE _).trans FN.2⟩

set_option maxRecDepth 100000 in
set_option maxHeartbeats 8000000 in
theorem step_state (w : World) (B N k b g m q : Nat) (c : ChipS) (run : Int) (r : RefS) (n ct : Int) (s tn : ByteArray) (wh : Bool) (I : Inv B N w k b g m c (some q) run r) :
    Calls Tryd.prog 16 #[.pointer (some ⟨k, 0, none⟩), OpS.v ⟨10, n, ct, s, tn, wh⟩, .bool false] w fun e w' => e = .returned (.bool true) ∧ Good B (N + 64) w' k ∧ Fr B w w' := by
  have hb1 : ∀ x, Below w.heap.size w (w.alloc x) := fun x => (Below.refl _ _).alloc (Nat.le_refl _) x
  have D1 := fun x => I.D.below (hb1 x)
  have hm := I.dm rfl
  have HM := fun x => seen_some (w.alloc x) B k b g m q c run r (D1 x) (I.rel.yes hm).1 (I.rel.yes hm).2
  have u1 : ∀ x, (w.alloc x).cell? ⟨k, 1, none⟩ = some (.pointer (some ⟨q, 0, none⟩)) := fun x => (desk_cells (D1 x).hk).2.1
  have HI : Hid (Inv B N w k b g m c (some q) run r) := I
  simp only [OpS.v] at *
  clear I hm
  go_enter Tryd.func16, Tryd.ntmps16
  go_wp2_with (go_at_call 35; refine (HM _).mono ?_; rintro en w2 ⟨rfl, hb2⟩)
  go_ret
  have I := HI.out
  exact ⟨rfl, ⟨b, g, m, c, some q, run, r, (D1 _).below hb2, I.rel, I.dm, (by have := I.ops; omega), I.hg, I.runs⟩, ((Fr.refl _ _).alloc I.D.size _).trans (Fr.of hb2 (D1 _).size)⟩

set_option maxRecDepth 100000 in
set_option maxHeartbeats 8000000 in
theorem step_skip (w : World) (B N k b g m : Nat) (c : ChipS) (d : Option Nat) (run : Int) (r : RefS) (kd n ct : Int) (s tn : ByteArray) (wh : Bool) (I : Inv B N w k b g m c d run r) (h1 : ¬ kd = 1) (h2 : ¬ kd = 11) (h3 : kd < 2 ∨ 10 < kd ∨ (2 < kd ∧ d = none)) :
    Calls Tryd.prog 16 #[.pointer (some ⟨k, 0, none⟩), OpS.v ⟨kd, n, ct, s, tn, wh⟩, .bool false] w fun e w' => e = .returned (.bool true) ∧ Good B (N + 64) w' k ∧ Fr B w w' := by
  have hb1 : ∀ x, Below w.heap.size w (w.alloc x) := fun x => (Below.refl _ _).alloc (Nat.le_refl _) x
  have D1 := fun x => I.D.below (hb1 x)
  have u1 : ∀ x, (w.alloc x).cell? ⟨k, 1, none⟩ = some (devV d) := fun x => (desk_cells (D1 x).hk).2.1
  have hG : ∀ x, Good B (N + 64) (w.alloc x) k := fun x => ⟨b, g, m, c, d, run, r, D1 x, I.rel, I.dm, (by have := I.ops; omega), I.hg, I.runs⟩
  have hE : ∀ x, Fr B w (w.alloc x) := fun x => (Fr.refl _ _).alloc I.D.size x
  simp only [OpS.v] at *
  clear I
  rcases h3 with h3 | h3 | ⟨h3, h4⟩
  · go_enter Tryd.func16, Tryd.ntmps16
    go_wp2
    go_ret
    exact ⟨rfl, hG _, hE _⟩
  · go_enter Tryd.func16, Tryd.ntmps16
    go_wp2
    go_ret
    exact ⟨rfl, hG _, hE _⟩
  · rw [h4] at u1
    simp only [devV] at u1
    clear h4
    by_cases h5 : 10 < kd
    · go_enter Tryd.func16, Tryd.ntmps16
      go_wp2
      go_ret
      exact ⟨rfl, hG _, hE _⟩
    · go_enter Tryd.func16, Tryd.ntmps16
      go_wp2
      go_ret
      exact ⟨rfl, hG _, hE _⟩
end Go.Proofs.YtcokahccbjdeaaaDoor
