import Derived.Test.YtcokahccbjdeaaaDoorPb
import Derived.Test.YtcokahccbjdeaaaDoorPc
namespace Go.Proofs.YtcokahccbjdeaaaDoor
open Go.RowKit

theorem step_any (w : World) (B N k : Nat) (o : OpS) (G : Good B N w k) (hN : N < 4611686018427360000) (hN2 : 64 ≤ N) (hs : o.s.size < 4611686018427387904) (hk : ¬ (6 ≤ o.kind ∧ o.kind ≤ 9)) :
    Calls Tryd.prog 16 #[.pointer (some ⟨k, 0, none⟩), o.v, .bool false] w fun e w' => e = .returned (.bool true) ∧ Good B (N + 64) w' k ∧ Fr B w w' := by
  obtain ⟨b, g, m, c, d, run, r, I⟩ := G
  obtain ⟨kd, n, ct, s, tn, wh⟩ := o
  simp only at hk hs
  by_cases h1 : kd = 1
  · subst h1; exact step_open w B N k b g m c d run r n ct s tn wh I.weak
  by_cases h11 : kd = 11
  · subst h11; exact step_move w B N k b g m c d run r n ct s tn wh I hN2
  by_cases h2 : kd = 2
  · subst h2
    by_cases he : (opRef r ⟨2, n, ct, s, tn, wh⟩).2 = 0
    · exact step_formatOk w B N k b g m c d run r n ct s tn wh I hN hs he
    · exact step_formatNo w B N k b g m c d run r n ct s tn wh I hN hs he
  by_cases hr : kd < 2 ∨ 10 < kd
  · exact step_skip w B N k b g m c d run r kd n ct s tn wh I h1 h11 (by omega)
  cases d with
  | none => exact step_skip w B N k b g m c none run r kd n ct s tn wh I h1 h11 (Or.inr (Or.inr ⟨by omega, rfl⟩))
  | some q =>
    have h4 : kd = 3 ∨ kd = 4 ∨ kd = 5 ∨ kd = 10 := by omega
    rcases h4 with rfl | rfl | rfl | rfl
    · exact step_stage w B N k b g m c (some q) run r n ct s tn wh I hN hs q rfl
    · exact step_write w B N k b g m c (some q) run r n ct s tn wh I hN hs q rfl
    · exact step_activate w B N k b g m c (some q) run r n ct s tn wh I hN hs q rfl
    · exact step_state w B N k b g m q c run r n ct s tn wh I

theorem seen_good (w : World) (B N k : Nat) (G : Good B N w k) :
    Calls Tryd.prog 35 #[.pointer (some ⟨k, 0, none⟩)] w fun e w' => e = .returned (.bool true) ∧ Good B N w' k ∧ Fr B w w' := by
  obtain ⟨b, g, m, c, d, run, r, I⟩ := G
  cases d with
  | none =>
    refine (seen_none w B k b g m c run r I.D).mono ?_
    rintro e w' ⟨rfl, rfl⟩
    exact ⟨rfl, ⟨b, g, m, c, none, run, r, I⟩, Fr.refl _ _⟩
  | some q =>
    have hm := I.dm rfl
    refine (seen_some w B k b g m q c run r I.D (I.rel.yes hm).1 (I.rel.yes hm).2).mono ?_
    rintro e w' ⟨rfl, hb⟩
    exact ⟨rfl, ⟨b, g, m, c, some q, run, r, I.D.below hb, I.rel, I.dm, I.ops, I.hg, I.runs⟩, Fr.of hb I.D.size⟩

theorem load_new : loadM newChip.cells = none := by
  have hm : markedM newChip.cells = false := by
    unfold markedM
    have : newChip.cells.getD 512 0 = 255 := by
      show (List.replicate 1024 (255 : UInt8)).getD 512 0 = 255
      rw [List.getD_eq_getElem?_getD, List.getElem?_replicate, if_pos (by omega)]; rfl
    rw [this]; rfl
  unfold loadM; rw [hm]; rfl
theorem rel_new : Rel newChip noRef := ⟨newChiphip_live, fun _ => load_new, fun h => by cases h⟩
set_option maxRecDepth 100000 in
set_option maxHeartbeats 4000000 in
theorem begun_any (w : World) (B : Nat) (hT : TurnsAt w) (hB : B ≤ w.heap.size) (hB1 : 1 ≤ B) :
    Calls Tryd.prog 15 #[] w fun e w' => ∃ k, e = .returned (.pointer (some ⟨k, 0, none⟩)) ∧ Good B 128 w' k ∧ Below w.heap.size w w' := by
  have HN := new_any w
  go_enter Tryd.func15, Tryd.ntmps15
  go_wp2_with (go_at_call 32; refine HN.mono ?_; rintro en w1 ⟨rfl, hc1, hb1, hs1⟩; clear hs1; have hs1 := hb1.size)
  go_ret
  refine ⟨w1.heap.size + 1, rfl, ?_, ?_⟩
  · have hbA : ∀ x y, Below w.heap.size w ((w1.alloc x).alloc y) := fun x y => (hb1.alloc hb1.size x).alloc (by simp; have := hb1.size; omega) y
    have hbB : ∀ x y, Below w1.heap.size w1 ((w1.alloc x).alloc y) := fun x y => ((Below.refl _ _).alloc (Nat.le_refl _) _).alloc (by simp) _
    refine ⟨w.heap.size + 1, w.heap.size, w1.heap.size, newChip, none, 0, noRef, ⟨?_, ⟨hc1.below (hbB _ _), hT.below (hbA _ _), by omega, by omega⟩, ?_, noDev _ _, by omega, by omega, by omega, by omega, hB1⟩, rel_new, (fun h => by cases h), (by show (0 : Int) ≤ _; omega), (by show (ByteArray.mk #[]).size ≤ _; decide), ⟨fun _ => rfl, fun e => by omega⟩⟩
    · exact heap_alloc2_new w1 _ _
    · exact heap_alloc2_old w1 _ _
  · exact (hb1.alloc hb1.size _).alloc (by simp; have := hb1.size; omega) _

theorem Good.up {B N M : Nat} {w : World} {k : Nat} (G : Good B N w k) (h : N ≤ M) : Good B M w k := by
  obtain ⟨b, g, m, c, d, run, r, I⟩ := G
  exact ⟨b, g, m, c, d, run, r, I.up h⟩

set_option maxRecDepth 100000 in
set_option maxHeartbeats 4000000 in
theorem ended_plain (w : World) (B N k : Nat) (j : Int) (G : Good B N w k) (hj : ¬ j = 1) :
    Calls Tryd.prog 17 #[.pointer (some ⟨k, 0, none⟩), .int .i64 j, .int .i64 5, .bool false] w fun e w' => e = .returned (.bool true) ∧ Good B N w' k ∧ Fr B w w' := by
  have HS := seen_good w B N k G
  clear G
  by_cases h2 : j = 2
  · subst h2
    go_enter Tryd.func17, Tryd.ntmps17
    go_wp2_with (go_at_call 35; refine HS.mono ?_; rintro en w2 ⟨rfl, hG, hb⟩)
    go_ret
    exact ⟨rfl, hG, hb⟩
  · go_enter Tryd.func17, Tryd.ntmps17
    go_wp2_with (go_at_call 35; refine HS.mono ?_; rintro en w2 ⟨rfl, hG, hb⟩)
    go_ret
    exact ⟨rfl, hG, hb⟩
theorem Desk.move1 {B : Nat} {w w2 : World} {k b g m b' g' : Nat} {c c' : ChipS} {d : Option Nat} {run : Int} {r : RefS} (D : Desk B w k b g m c d run r) (hb : Below w.heap.size w w2) (V : Dv w2 b' g' c') (h1 : w.heap.size ≤ b') (h2 : w.heap.size ≤ g') :
    DeskW B (w2.setCell ⟨k, 0, none⟩ (.pointer (some ⟨b', 0, none⟩))) k b' g' m c' d run r ∧ Fr B w (w2.setCell ⟨k, 0, none⟩ (.pointer (some ⟨b', 0, none⟩))) := by
  have lt := D.lt
  have sz := D.size
  have ne := D.ne
  have ho : Only (fun x => x = k) w2 (w2.setCell ⟨k, 0, none⟩ (.pointer (some ⟨b', 0, none⟩))) := (Only.refl _ _).k 0 _
  have B1 := D.B1; have Bk := D.Bk
  refine ⟨⟨?_, ⟨⟨ho.heap V.chip.hb (by omega), ho.heap V.chip.hg (by omega), V.chip.len, V.chip.ops0, V.chip.left1, V.chip.left0, V.chip.tn⟩, V.turns.only ho (by omega), V.b0, V.g0⟩, ho.heap (below_heap hb D.hm) (fun e => ne.2.2.1 e.symm), Bk, by omega, by omega, D.Bm, B1⟩, (Fr.of hb sz).trans (Fr.k ho (below_heap hb D.hk) Bk (Nat.le_trans sz hb.size))⟩
  rw [heap_setCell_at _ _ _ _ _ _ _ (below_heap hb D.hk)]; rfl
set_option maxRecDepth 100000 in
set_option maxHeartbeats 4000000 in
theorem ended_move (w : World) (B N k : Nat) (G : Good B N w k) (hN : 128 ≤ N) :
    Calls Tryd.prog 17 #[.pointer (some ⟨k, 0, none⟩), .int .i64 1, .int .i64 5, .bool false] w fun e w' => e = .returned (.bool true) ∧ Good B (N + 64) w' k ∧ Fr B w w' := by
  obtain ⟨b, g, m, c, d, run, r, I⟩ := G
  have D := I.D
  have HM := moved_any w b g c D.dv
  obtain ⟨hrel, hop⟩ := I.rel.moved
  obtain ⟨u0, u1, u2, u3, uf⟩ := desk_cells D.hk
  have HO : ∀ w2 b' g', Below w.heap.size w w2 → Dv w2 b' g' (movedM c.cells) → w.heap.size ≤ b' → w.heap.size ≤ g' → Calls Tryd.prog 16 #[.pointer (some ⟨k, 0, none⟩), .agg #[.int .i64 1, .int .i64 0, .int .i64 (-1), .string ⟨#[]⟩, .string ⟨#[]⟩, .bool false], .bool false] (w2.setCell ⟨k, 0, none⟩ (.pointer (some ⟨b', 0, none⟩))) fun e w' => e = .returned (.bool true) ∧ Good B (N + 64) w' k ∧ Fr B w w' := by
    intro w2 b' g' hb V h1 h2
    obtain ⟨W, E⟩ := D.move1 hb V h1 h2
    refine (step_open _ B N k b' g' m _ d run r 0 (-1) ⟨#[]⟩ ⟨#[]⟩ false ⟨W, hrel, by omega, I.hg, I.runs⟩).mono ?_
    rintro e w' ⟨rfl, hG, hb'⟩
    exact ⟨rfl, hG, E.trans hb'⟩
  have HK : ∀ w2, Below w.heap.size w w2 → w2.heap[k]? = some (.cells (deskC b d run m) 86 (0, 0)) := fun w2 hb => below_heap hb D.hk
  clear D I
  go_enter Tryd.func17, Tryd.ntmps17
  go_wp2_with (first
    | (go_at_call 34; refine HM.mono ?_; rintro en w2 ⟨b', g', rfl, hV, h1, h2, hb2⟩; obtain ⟨a0, a1, a2, a3, af⟩ := desk_cells (HK _ hb2))
    | (go_at_call 16; refine (HO _ _ _ hb2 hV h1 h2).mono ?_; rintro en w3 ⟨rfl, hG3, hb3⟩; have HS := seen_good w3 B (N + 64) k hG3)
    | (go_at_call 35; refine HS.mono ?_; rintro en w4 ⟨rfl, hG4, hb4⟩))
  go_ret
  exact ⟨rfl, hG4, hb3.trans hb4⟩
end Go.Proofs.YtcokahccbjdeaaaDoor
