import Derived.Test.YtcokahccbjdeaaaDoorStT
namespace Go.Proofs.YtcokahccbjdeaaaDoor
open Go.RowKit

/-- The chip's bytes laid onto a new chip. -/
theorem read_piece (c : ChipS) (j : Nat) (hj : j < 128) : c.read ((8 * j : Nat) : Int) 8 = mk ((c.cells.drop (8 * j)).take 8) := by
  unfold ChipS.read
  rw [if_neg (by omega)]
  rfl
set_option maxRecDepth 100000 in
set_option maxHeartbeats 4000000 in
theorem moved_any (w : World) (b g : Nat) (c : ChipS) (h : Dv w b g c) :
    Calls Tryd.prog 34 #[.pointer (some ⟨b, 0, none⟩)] w fun e w' => ∃ b' g', e = .returned (.pointer (some ⟨b', 0, none⟩)) ∧ Dv w' b' g' (movedM c.cells) ∧ w.heap.size ≤ b' ∧ w.heap.size ≤ g' ∧ Below w.heap.size w w' := by
  have hlen := h.chip.len
  have HR : ∀ (wx : World) (o : Int) (j : Nat), o = (8 * j : Nat) → j < 128 → Below w.heap.size w wx → Calls Tryd.prog 58 #[.pointer (some ⟨b, 0, none⟩), .int .i64 o, .int .i64 8] wx fun e w' => e = .returned (.string (mk ((c.cells.drop (8 * j)).take 8))) ∧ w' = wx := by
    rintro wx o j rfl hj hb
    have := read_any wx b g c ((8 * j : Nat) : Int) 8 (by omega) (by omega) (by omega) (by omega) (h.chip.below hb)
    rw [read_piece c j hj] at this
    exact this
  have HP : ∀ (wx : World) (o : Int) (j : Nat), o = (8 * j : Nat) → j < 128 → ChipAt wx (w.heap.size + 1) w.heap.size (newChip.prims (piecesN 0 c.cells j)) → Calls Tryd.prog 60 #[.pointer (some ⟨w.heap.size + 1, 0, none⟩), .int .i64 o, .string (mk ((c.cells.drop (8 * j)).take 8))] wx fun e w' => e = .returned (.tuple #[]) ∧ ChipAt w' (w.heap.size + 1) w.heap.size (newChip.prims (piecesN 0 c.cells (j + 1))) ∧ Only (fun k => k = w.heap.size + 1 ∨ k = w.heap.size) wx w' := by
    rintro wx o j rfl hj hc
    have hop := (prims_ops newChip (piecesN 0 c.cells j)).1
    have hl : (piecesN 0 c.cells j).length = j := by simp [piecesN]
    have h0 : newChip.ops = 0 := rfl
    refine (program_all wx _ _ _ _ _ (by omega) (by omega) (by rw [mk_size]; simp only [List.length_take]; omega) hc (by omega)).mono ?_
    rintro e w' ⟨rfl, x1, x2, _⟩
    refine ⟨rfl, ?_, x2⟩
    rw [piecesN_succ, ChipS.prims_append]
    have e0 : (pieceM 0 c.cells j) = .pr (8 * j) ((c.cells.drop (8 * j)).take 8) := by simp [pieceM]
    rw [e0]
    exact x1
  have hT : ∀ {wx}, Below w.heap.size w wx → TurnsAt wx := fun hb => h.turns.below hb
  have hpos : 0 < w.heap.size := lt_of_cell h.turns.t0
  have HNW := new_any w
  clear h
  go_enter Tryd.func34, Tryd.ntmps34
  go_wp2_with (go_at_call 32; refine HNW.mono ?_; rintro en w1 ⟨rfl, hc1, hb1, hs1⟩)
  go_loopw [4, 5] (fun i s wr => ∃ j : Nat, j ≤ 128 ∧ i = .int .i64 ((8 * j : Nat) : Int) ∧ ChipAt wr (w.heap.size + 1) w.heap.size (newChip.prims (piecesN 0 c.cells j)) ∧ Below w.heap.size w wr) (fun i _ _ => 1024 - (intOf i).toNat)
  case atStart => exact ⟨0, by omega, rfl, hc1, hb1⟩
  case round =>
    obtain ⟨j, hj, rfl, hc, hb⟩ := hrel
    by_cases hlt : j < 128
    · have hltI : (8 : Int) * j < 1024 := by omega
      go_wp2_with (first
        | (go_at_call 58; refine (HR _ _ j (by omega) hlt hb).mono ?_; rintro en w2 ⟨rfl, rfl⟩)
        | (go_at_call 60; refine (HP _ _ j (by omega) hlt hc).mono ?_; rintro en w3 ⟨rfl, hc3, ho3⟩))
      go_roundw
      case rel => exact ⟨j + 1, by omega, by go_num, hc3, hb.trans (ho3.below hb.size (fun k hk => by omega))⟩
      case measure => simp [intOf]; omega
    · have hjj : j = 128 := by omega
      subst hjj
      go_wp2
      go_ret
      exact ⟨_, _, rfl, ⟨hc, hT hb, by omega, by omega⟩, by omega, by omega, hb⟩
end Go.Proofs.YtcokahccbjdeaaaDoor
