import Derived.Test.YtcokahccbjdeaabDoorStJ
namespace Go.Proofs.YtcokahccbjdeaabDoor
open Go.RowKit

def devC (b : Nat) (run : Int) : Array Value := #[.pointer (some ⟨b, 0, none⟩), .int .i64 run]
theorem dev_cells {w : World} {q b : Nat} {run : Int} (H : w.heap[q]? = some (.cells (devC b run) 66 (0, 0))) :
    w.cell? ⟨q, 0, none⟩ = some (.pointer (some ⟨b, 0, none⟩)) ∧ w.cell? ⟨q, 1, none⟩ = some (.int .i64 run) ∧ (∀ o, w.frozen? ⟨q, o, none⟩ = false) := by
  refine ⟨?_, ?_, fun o => free_of_heap H⟩ <;> (rw [cell_of_heap H]; rfl)
theorem below_heap {w w' : World} {k : Nat} {x : Obj} (hb : Below w.heap.size w w') (H : w.heap[k]? = some x) : w'.heap[k]? = some x := (hb.block _ (Array.getElem?_eq_some_iff.1 H).1).trans H

theorem load_fit {cells : List UInt8} {h : HeldS} (e : loadM cells = some h) : h.good.size ≤ 256 ∧ h.trial.size ≤ 256 ∧ h.got.size ≤ 256 := by
  unfold loadM at e
  split at e
  · cases hn : newestM cells with
    | none => rw [hn] at e; cases e
    | some q =>
      obtain ⟨s, t, h'⟩ := q
      rw [hn] at e
      simp only [Option.map_some, Option.some.injEq] at e
      subst e
      obtain ⟨_, _, hp⟩ := newest_lt hn
      unfold pageM at hp
      split at hp
      · cases hp
      · cases hd : decPage (sectorOf cells s) with
        | none => rw [hd] at hp; cases hp
        | some x =>
          rw [hd] at hp
          simp only [Option.map_some, Option.some.injEq, Prod.mk.injEq] at hp
          obtain ⟨_, rfl⟩ := hp
          unfold decPage at hd
          split at hd
          · cases hd
          · split at hd
            · simp only [Option.some.injEq] at hd
              subst hd
              have hl : (sectorOf cells s).length ≤ 256 := by unfold sectorOf; rw [List.length_take]; omega
              unfold heldAt
              refine ⟨?_, ?_, ?_⟩
              · simp only [tx_size, List.length_take, List.length_drop]; omega
              · simp only; split
                · simp [tx_size]
                · simp only [tx_size, List.length_take, List.length_drop]; omega
              · simp only; split
                · simp only [tx_size, List.length_take, List.length_drop]; omega
                · simp [tx_size]
            · cases hd
  · cases e
set_option maxRecDepth 100000 in
set_option maxHeartbeats 4000000 in
theorem open_none (w : World) (b g : Nat) (c : ChipS) (h : Dv w b g c) (hl : loadM c.cells = none) :
    Calls Tryd.prog 11 #[.pointer (some ⟨b, 0, none⟩)] w fun e w' => e = .returned (.tuple #[.pointer none, .int .i64 8]) ∧ Below w.heap.size w w' := by
  have HL := load_held w b g c h
  rw [hl] at HL
  simp only [loadOut, HeldS.v, noHeld] at HL
  clear h hl
  go_enter Tryd.func11, Tryd.ntmps11
  go_wp2_with (go_at_call 29; refine HL.mono ?_; rintro en w2 ⟨rfl, hb2⟩)
  refine bodyPost_ret (results_tmp2 rfl _ _ _) rfl ⟨rfl, hb2.alloc hb2.size _⟩
set_option maxRecDepth 100000 in
set_option maxHeartbeats 4000000 in
theorem open_some (w : World) (b g : Nat) (c : ChipS) (x : HeldS) (h : Dv w b g c) (hl : loadM c.cells = some x) :
    Calls Tryd.prog 11 #[.pointer (some ⟨b, 0, none⟩)] w fun e w' => ∃ q, e = .returned (.tuple #[.pointer (some ⟨q, 0, none⟩), .int .i64 0]) ∧ w.heap.size ≤ q ∧ w'.heap[q]? = some (.cells (devC b 0) 66 (0, 0)) ∧ Below w.heap.size w w' := by
  have HL := load_held w b g c h
  rw [hl] at HL
  obtain ⟨gd, fl, tr, ts, sz, gt⟩ := x
  simp only [loadOut, HeldS.v] at HL
  clear h hl
  go_enter Tryd.func11, Tryd.ntmps11
  go_wp2_with (go_at_call 29; refine HL.mono ?_; rintro en w2 ⟨rfl, hb2⟩)
  refine bodyPost_ret (results_tmp2 rfl _ _ _) rfl ⟨w2.heap.size + 1, ?_⟩
  have hbA := hb2.alloc hb2.size (.cells (HeldS.cs ⟨gd, fl, tr, ts, sz, gt⟩) 62)
  refine ⟨rfl, by have := hb2.size; omega, heap_alloc2_new w2 _ _, hbA.alloc hbA.size _⟩
set_option maxRecDepth 100000 in
set_option maxHeartbeats 4000000 in
theorem format_any (w : World) (b g : Nat) (c : ChipS) (img : ByteArray) (hi : img.size < 4611686018427387904) (hops : c.ops < 4611686018427370000) (h : Dv w b g c) :
    Calls Tryd.prog 12 #[.pointer (some ⟨b, 0, none⟩), .string img] w fun e w' => e = .returned (.int .i64 (formatM c img).2) ∧ ChipAt w' b g (formatM c img).1 ∧ Only (fun k => k = b ∨ k = g) w w' := by
  have HL := load_held w b g c h
  cases hl : loadM c.cells with
  | some x =>
    have HF : Hid (formatM c img = (c, 7)) := by unfold formatM Hid; rw [hl]
    rw [hl] at HL
    obtain ⟨gd, fl, tr, ts, sz, gt⟩ := x
    simp only [loadOut, HeldS.v] at HL
    clear hl
    go_enter Tryd.func12, Tryd.ntmps12
    go_wp2_with (go_at_call 29; refine HL.mono ?_; rintro en w2 ⟨rfl, hb2⟩)
    have hbA := hb2.alloc hb2.size (.cells (HeldS.cs ⟨gd, fl, tr, ts, sz, gt⟩) 62)
    go_ret
    exact ⟨by rw [HF.out]; rfl, by rw [HF.out]; exact h.chip.below hbA, Only.of_below _ hbA⟩
  | none =>
    rw [hl] at HL
    simp only [loadOut, HeldS.v, noHeld] at HL
    have HV := fun wx => version_any wx img hi
    by_cases hv : verB img < 0
    · have HF : Hid (formatM c img = (c, 6)) := by unfold formatM Hid; rw [hl]; simp only [if_pos hv]
      clear hl
      go_enter Tryd.func12, Tryd.ntmps12
      go_wp2_with (first
        | (go_at_call 29; refine HL.mono ?_; rintro en w2 ⟨rfl, hb2⟩; have hbA := hb2.alloc hb2.size (.cells noHeld.cs 62))
        | (go_at_call 30; refine (HV _).mono ?_; rintro en w3 ⟨rfl, hb3⟩; have hbB := hbA.trans (hb3.mono hbA.size)))
      go_ret
      exact ⟨by rw [HF.out]; rfl, by rw [HF.out]; exact h.chip.below hbB, Only.of_below _ hbB⟩
    · have HF : Hid (formatM c img = (c.prims (createOps c.cells ⟨img, verB img, ⟨#[]⟩, 0, 0, ⟨#[]⟩⟩), 0)) := by unfold formatM Hid; rw [hl]; simp only [if_neg hv]; rfl
      have hok : HeldS.ok ⟨img, verB img, ⟨#[]⟩, 0, 0, ⟨#[]⟩⟩ := by
        refine ⟨?_, by show 0 ≤ verB img; omega, Int.le_refl _, Int.le_refl _, fun _ => rfl, fun _ => rfl⟩
        have : (ByteArray.mk #[]).size = 0 := rfl
        simp [HeldS.lawful, this]
      have HC := fun wx (hb : Below w.heap.size w wx) => create_held wx b g c _ hok hops (h.below hb)
      simp only [HeldS.v] at HC
      clear hl hok
      go_enter Tryd.func12, Tryd.ntmps12
      go_wp2_with (first
        | (go_at_call 29; refine HL.mono ?_; rintro en w2 ⟨rfl, hb2⟩; have hbA := hb2.alloc hb2.size (.cells noHeld.cs 62))
        | (go_at_call 30; refine (HV _).mono ?_; rintro en w3 ⟨rfl, hb3⟩; have hbB := hbA.trans (hb3.mono hbA.size))
        | (go_at_call 31; refine (HC _ hbB).mono ?_; rintro en w4 ⟨rfl, hc4, ho4⟩))
      go_ret
      exact ⟨by rw [HF.out]; rfl, by rw [HF.out]; exact hc4, (Only.of_below _ hbB).trans ho4⟩
end Go.Proofs.YtcokahccbjdeaabDoor
