import Derived.Test.YtcokahccbjdeaaaDoorBoots
import Derived.Test.YtcokahccbjdeaaaDoorPe
namespace Go.Proofs.YtcokahccbjdeaaaDoor
open Go.RowKit

theorem step_all (w : World) (B N k : Nat) (o : OpS) (G : Good B N w k) (hN : N < 4611686018427360000) (hN2 : 64 ≤ N) (hs : o.s.size < 4611686018427387904) :
    Calls Tryd.prog 16 #[.pointer (some ⟨k, 0, none⟩), o.v, .bool false] w fun e w' => e = .returned (.bool true) ∧ Good B (N + 64) w' k ∧ Fr B w w' := by
  by_cases hk : 6 ≤ o.kind ∧ o.kind ≤ 9
  · obtain ⟨b, g, m, c, d, run, r, I⟩ := G
    obtain ⟨kd, n, ct, s, tn, wh⟩ := o
    simp only at hk hs
    cases d with
    | none => exact step_skip w B N k b g m c none run r kd n ct s tn wh I (by omega) (by omega) (Or.inr (Or.inr ⟨by omega, rfl⟩))
    | some q =>
      have h4 : kd = 6 ∨ kd = 7 ∨ kd = 8 ∨ kd = 9 := by omega
      rcases h4 with rfl | rfl | rfl | rfl
      · exact step_boot w B N k b g m c run r n ct s tn wh q I hN
      · exact step_confirm w B N k b g m c run r n ct s tn wh q I hN
      · exact step_raise w B N k b g m c run r n ct s tn wh q I hN
      · exact step_drop w B N k b g m c run r n ct s tn wh q I hN
  · exact step_any w B N k o G hN hN2 hs hk
set_option maxRecDepth 100000 in
set_option maxHeartbeats 4000000 in
theorem ended_first9 (w : World) (B N k : Nat) (G : Good B N w k) :
    Calls Tryd.prog 17 #[.pointer (some ⟨k, 0, none⟩), .int .i64 0, .int .i64 9, .bool false] w fun e w' => e = .returned (.bool true) ∧ Good B N w' k ∧ Fr B w w' := by
  have HS := seen_good w B N k G
  clear G
  go_enter Tryd.func17, Tryd.ntmps17
  go_wp2_with (go_at_call 35; refine HS.mono ?_; rintro en w2 ⟨rfl, hG, hb⟩)
  go_ret
  exact ⟨rfl, hG, hb⟩
set_option maxRecDepth 100000 in
set_option maxHeartbeats 4000000 in
theorem ended_move9 (w : World) (B N k : Nat) (G : Good B N w k) (hN : 128 ≤ N) :
    Calls Tryd.prog 17 #[.pointer (some ⟨k, 0, none⟩), .int .i64 1, .int .i64 9, .bool false] w fun e w' => e = .returned (.bool true) ∧ Good B (N + 64) w' k ∧ Fr B w w' := by
  obtain ⟨b, g, m, c, d, run, r, I⟩ := G
  have D := I.D
  have HM := moved_any w b g c D.dv
  obtain ⟨hrel, hop⟩ := I.rel.moved
  obtain ⟨u0, u1, u2, u3, uf⟩ := desk_cells D.hk
  have HO : ∀ w2 b' g', Below w.heap.size w w2 → Dv w2 b' g' (movedM c.cells) → w.heap.size ≤ b' → w.heap.size ≤ g' → Calls Tryd.prog 16 #[.pointer (some ⟨k, 0, none⟩), .agg #[.int .i64 1, .int .i64 0, .int .i64 (-1), .string ⟨#[]⟩, .string ⟨#[]⟩, .bool false], .bool false] (w2.setCell ⟨k, 0, none⟩ (.pointer (some ⟨b', 0, none⟩))) fun e w' => e = .returned (.bool true) ∧ Good B (N + 64) w' k ∧ Fr B w w' := by
    intro w2 b' g' hb V h1 h2
    obtain ⟨W, E⟩ := D.move1 hb V h1 h2
    refine (step_open _ B N k b' g' m _ d run r 0 (-1) ⟨#[]⟩ ⟨#[]⟩ false ⟨W, hrel, by omega, I.hg, I.runs⟩).mono ?_
    rintro e w' ⟨rfl, hG, hb'⟩
    exact ⟨rfl, hG, E.trans hb'⟩
  have HK : ∀ w2, Below w.heap.size w w2 → w2.heap[k]? = some (.cells (deskC b d run m) 86 (0, 0)) := fun w2 hb => below_heap hb D.hk
  clear D I
  go_enter Tryd.func17, Tryd.ntmps17
  go_wp2_with (first
    | (go_at_call 34; refine HM.mono ?_; rintro en w2 ⟨b', g', rfl, hV, h1, h2, hb2⟩; obtain ⟨a0, a1, a2, a3, af⟩ := desk_cells (HK _ hb2))
    | (go_at_call 16; refine (HO _ _ _ hb2 hV h1 h2).mono ?_; rintro en w3 ⟨rfl, hG3, hb3⟩; have HS := seen_good w3 B (N + 64) k hG3)
    | (go_at_call 35; refine HS.mono ?_; rintro en w4 ⟨rfl, hG4, hb4⟩))
  go_ret
  exact ⟨rfl, hG4, hb3.trans hb4⟩
set_option maxRecDepth 100000 in
set_option maxHeartbeats 4000000 in
theorem ended_boot9 (w : World) (B N k : Nat) (G : Good B N w k) (hN : N < 4611686018427360000) (hN2 : 64 ≤ N) :
    Calls Tryd.prog 17 #[.pointer (some ⟨k, 0, none⟩), .int .i64 2, .int .i64 9, .bool false] w fun e w' => e = .returned (.bool true) ∧ Good B (N + 64) w' k ∧ Fr B w w' := by
  have HB := step_all w B N k ⟨6, 0, -1, ⟨#[]⟩, ⟨#[]⟩, false⟩ G hN hN2 (by decide)
  have HS := fun wx (G : Good B (N + 64) wx k) => seen_good wx B (N + 64) k G
  simp only [OpS.v] at HB
  clear G
  go_enter Tryd.func17, Tryd.ntmps17
  go_wp2_with (first
    | (go_at_call 16; refine HB.mono ?_; rintro en w2 ⟨rfl, hG2, hb2⟩)
    | (go_at_call 35; refine (HS _ hG2).mono ?_; rintro en w3 ⟨rfl, hG3, hb3⟩))
  go_ret
  exact ⟨rfl, hG3, hb2.trans hb3⟩
set_option maxRecDepth 100000 in
theorem plays_law (w : World) (a : Option Addr) (b o cap : Nat) (l : List OpS) (ha : l ≠ [] → a = some ⟨b, o, none⟩) (hl : OpsAt w b o l) (hb : l ≠ [] → b < w.heap.size) (hok : ∀ x ∈ l, x.s.size < 4611686018427387904) (hlen : l.length < 72057594037927000) (hT : TurnsAt w) :
    Calls Tryd.prog 4 #[.slice a l.length cap] w fun e w' => e = .returned (.bool true) ∧ Below w.heap.size w w' := by
  have HP := play_any 9 w a b o cap l ha hl hb hok hlen hT
    (fun wx N k x G h1 h2 h3 _ => step_all wx w.heap.size N k x G h1 h2 h3)
    (fun wx N k j G h1 h2 h3 => by
      rcases h3 with rfl | rfl | rfl
      · exact (ended_first9 wx w.heap.size N k G).mono fun _ _ h => ⟨h.1, h.2.1.up (by omega), h.2.2⟩
      · exact ended_move9 wx w.heap.size N k G h2
      · exact ended_boot9 wx w.heap.size N k G h1 (by omega))
  go_enter Tryd.func4, Tryd.ntmps4
  go_wp2_with (go_at_call 6; refine HP.mono ?_; rintro en w2 ⟨rfl, hb2⟩)
  go_ret
  exact ⟨rfl, hb2⟩
end Go.Proofs.YtcokahccbjdeaaaDoor
