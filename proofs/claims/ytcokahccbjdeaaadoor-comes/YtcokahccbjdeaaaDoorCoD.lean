import Derived.Test.YtcokahccbjdeaaaDoorCoC
namespace Go.Proofs.YtcokahccbjdeaaaDoor
open Go.RowKit

theorem FrS.k {B : Nat} {w w' : World} {k : Nat} {c : Array Value} (h : Only (fun x => x = k) w w') (hk : w.heap[k]? = some (.cells c 32 (0, 0))) (hB : B ≤ k) (hs : B ≤ w.heap.size) : FrS B w w' :=
  ⟨h.below hs (fun _ hx => hx ▸ hB), fun _ _ e => h.heap e (fun hx => neH e hk (by decide) hx)⟩
theorem onlyK {w w' : World} {k : Nat} (h : Only (fun x => x = k) w w') (o : Nat) (v : Value) : Only (fun x => x = k) w (w'.setCell ⟨k, o, none⟩ v) := h.setCell rfl v
theorem DvK {w : World} {k b g o : Nat} {c : ChipS} {v : Value} (V : Dv w b g c) (nb : b ≠ k) (ng : g ≠ k) (k0 : k ≠ 0) : Dv (w.setCell ⟨k, o, none⟩ v) b g c := by
  have ho : Only (fun x => x = k) w (w.setCell ⟨k, o, none⟩ v) := onlyK (Only.refl _ _) o v
  exact ⟨⟨ho.heap V.chip.hb nb, ho.heap V.chip.hg ng, V.chip.len, V.chip.ops0, V.chip.left1, V.chip.left0, V.chip.tn⟩, V.turns.only ho (fun e => k0 e.symm), V.b0, V.g0⟩
/-- The ship gets another chip. -/
theorem ShipW.newChip {B : Nat} {w w2 : World} {k b g b' g' : Nat} {c c' : ChipS} {d : Value} {L : Log} (S : ShipW B w k b g c d L) (hb : Below w.heap.size w w2) (V : Dv w2 b' g' c') (h1 : w.heap.size ≤ b') (h2 : w.heap.size ≤ g') :
    ShipW B (w2.setCell ⟨k, 0, none⟩ (.pointer (some ⟨b', 0, none⟩))) k b' g' c' d L ∧ FrS B w (w2.setCell ⟨k, 0, none⟩ (.pointer (some ⟨b', 0, none⟩))) := by
  have l := S.lt
  have Bk := S.Bk; have B1 := S.B1
  have hk2 := below_heap hb S.hk
  refine ⟨⟨?_, DvK V (by omega) (by omega) (by omega), Bk, by omega, by omega, B1⟩, (FrS.of hb l.2.2.2).trans (FrS.k (onlyK (Only.refl _ _) 0 _) hk2 Bk (Nat.le_trans l.2.2.2 hb.size))⟩
  rw [heap_setCell_at _ _ _ _ _ _ _ hk2]; rfl
/-- And a device on it. -/
theorem ShipW.opened {B : Nat} {w w2 : World} {k b g q : Nat} {c : ChipS} {d : Value} {L : Log} (S : ShipW B w k b g c d L) (hb : Below w.heap.size w w2) (hq : w2.heap[q]? = some (.cells (devC b 0) 76 (0, 0))) (h1 : w.heap.size ≤ q) :
    Ship B ((w2.setCell ⟨k, 1, none⟩ (.pointer (some ⟨q, 0, none⟩))).setCell ⟨k, 5, none⟩ (.int .i64 0)) k b g q c 0 { L with rn := 0 } ∧ FrS B w ((w2.setCell ⟨k, 1, none⟩ (.pointer (some ⟨q, 0, none⟩))).setCell ⟨k, 5, none⟩ (.int .i64 0)) := by
  have l := S.lt
  have Bk := S.Bk; have B1 := S.B1
  have hk2 := below_heap hb S.hk
  have nb : b ≠ k := fun e => neH S.dv.chip.hb S.hk (by decide) e
  have ng : g ≠ k := fun e => neH S.dv.chip.hg S.hk (by decide) e
  have ho : Only (fun x => x = k) w2 ((w2.setCell ⟨k, 1, none⟩ (.pointer (some ⟨q, 0, none⟩))).setCell ⟨k, 5, none⟩ (.int .i64 0)) := onlyK (onlyK (Only.refl _ _) 1 _) 5 _
  refine ⟨⟨⟨?_, DvK (DvK (S.dv.below hb) nb ng (by omega)) nb ng (by omega), Bk, S.Bb, S.Bg, B1⟩, ho.heap hq (by omega), by omega⟩, (FrS.of hb l.2.2.2).trans (FrS.k ho hk2 Bk (Nat.le_trans l.2.2.2 hb.size))⟩
  rw [heap_setCell_at _ _ _ _ _ _ _ (heap_setCell_at _ _ _ _ _ _ _ hk2)]; rfl
set_option maxRecDepth 100000 in
set_option maxHeartbeats 4000000 in
theorem reopened_any (w : World) (B k b g : Nat) (c : ChipS) (d : Value) (L : Log) (x : HeldS) (S : ShipW B w k b g c d L) (hl : loadM c.cells = some x) :
    Calls Tryd.prog 14 #[.pointer (some ⟨k, 0, none⟩)] w fun e w' => e = .returned (.bool true) ∧ (∃ b' g' q', Ship B w' k b' g' q' (movedM c.cells) 0 { L with rn := 0 }) ∧ FrS B w w' := by
  have HM := movedK_any w b g c S.dv
  have hl2 : loadM (movedM c.cells).cells = some x := by rw [(moved_ok c.cells S.dv.chip.len).2]; exact hl
  obtain ⟨q0, q1, q2, q3, q4, q5, q6, qf⟩ := ship_cells S.hk
  have hkl := S.lt.1
  go_enter Tryd.func14, Tryd.ntmps14
  go_wp2_with (first
    | (go_at_call 30; refine HM.mono ?_; rintro en w2 ⟨b', g', rfl, hV2, h1, h2, hb2⟩; obtain ⟨S3, F3⟩ := S.newChip hb2 hV2 h1 h2; have a0 := (ship_cells S3.hk).1; have hk2 := below_heap hb2 S.hk; obtain ⟨u0, u1, u2, u3, u4, u5, u6, uf⟩ := ship_cells hk2)
    | (go_at_call 31; refine (open_some _ _ _ _ x S3.dv hl2).mono ?_; rintro en w4 ⟨q, rfl, hq1, hq2, hb4⟩; obtain ⟨S4, F4⟩ := S3.opened hb4 hq2 hq1; obtain ⟨v0, v1, v2, v3, v4, v5, v6, vf⟩ := ship_cells (S3.below hb4).1.hk))
  go_ret
  exact ⟨rfl, ⟨b', g', q, S4⟩, F3.trans F4⟩
theorem moved_rel {c : ChipS} {r : RefS} (h : Rel c r) (hl : c.cells.length = 1024) : Rel (movedM c.cells) r ∧ (movedM c.cells).ops ≤ 128 := by
  obtain ⟨a, b⟩ := moved_ok c.cells hl
  refine ⟨⟨a, fun e => by rw [b]; exact h.no e, fun e => by rw [b]; exact h.yes e⟩, ?_⟩
  have := (prims_ops newChip (piecesN 0 c.cells 128)).1
  have h0 : newChip.ops = 0 := rfl
  have hl : (piecesN 0 c.cells 128).length = 128 := by simp [piecesN]
  unfold movedM
  omega
set_option maxRecDepth 100000 in
set_option maxHeartbeats 4000000 in
theorem launched_any (w : World) (B : Nat) (hT : TurnsAt w) (hB : B ≤ w.heap.size) (hB1 : 1 ≤ B) :
    Calls Tryd.prog 7 #[] w fun e w' => ∃ k b g q c t m, e = .returned (.pointer (some ⟨k, 0, none⟩)) ∧ Ship B w' k b g q c 0 ⟨.slice (some ⟨m, 0, none⟩) 1 1, ⟨#[]⟩, 0, 0, 3⟩ ∧ Rel c ⟨true, bareM t 3⟩ ∧ Image t 3 ∧ c.ops ≤ 128 ∧ w'.heap[m]? = some (.cells #[.string t] 9 (0, 0)) ∧ B ≤ m ∧ Below B w w' := by
  have HM := made_any w hT
  go_enter Tryd.func7, Tryd.ntmps7
  go_wp2_with (first
    | (go_at_call 18; refine HM.mono ?_; rintro en w1 ⟨b, g, t, c, rfl, hV, hR, hI, hop, h1, h2, hb1⟩))
  have hbw : Below w1.heap.size w1 ((w1.alloc (.cells #[.string t] 9)).alloc (.cells (shipC b (.pointer none) ⟨.slice (some ⟨w1.heap.size, 0, none⟩) 1 1, ⟨#[]⟩, 0, 0, 3⟩) 32)) := ((Below.refl _ _).alloc (Nat.le_refl _) _).alloc (by simp) _
  have hsz := hb1.size
  have hS : ShipW B ((w1.alloc (.cells #[.string t] 9)).alloc (.cells (shipC b (.pointer none) ⟨.slice (some ⟨w1.heap.size, 0, none⟩) 1 1, ⟨#[]⟩, 0, 0, 3⟩) 32)) (w1.heap.size + 1) b g c (.pointer none) ⟨.slice (some ⟨w1.heap.size, 0, none⟩) 1 1, ⟨#[]⟩, 0, 0, 3⟩ := ⟨heap_alloc2_new w1 _ _, hV.below hbw, by omega, by omega, by omega, hB1⟩
  have hm : ((w1.alloc (.cells #[.string t] 9)).alloc (.cells (shipC b (.pointer none) ⟨.slice (some ⟨w1.heap.size, 0, none⟩) 1 1, ⟨#[]⟩, 0, 0, 3⟩) 32)).heap[w1.heap.size]? = some (.cells #[.string t] 9 (0, 0)) := heap_alloc2_old w1 _ _
  refine (reopened_any _ B _ b g c _ _ _ hS (hR.yes rfl).1).mono ?_
  rintro en w3 ⟨rfl, ⟨b', g', q', S'⟩, F⟩
  obtain ⟨R', o'⟩ := moved_rel hR hV.chip.len
  go_wp2
  go_ret
  exact ⟨_, b', g', q', _, t, w1.heap.size, rfl, S', R', hI, o', F.keep _ _ hm, by omega, (hb1.mono hB).trans ((hbw.mono (by omega)).trans F.bel)⟩
end Go.Proofs.YtcokahccbjdeaaaDoor
