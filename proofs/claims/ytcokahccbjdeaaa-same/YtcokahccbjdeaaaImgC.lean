import Derived.Test.YtcokahccbjdeaaaImgB
namespace Go.Proofs.Ytcokahccbjdeaaa
open Go.RowKit

theorem zero86 : Try.zeroCells86 = memV mem0 := by kernel_rfl

theorem layAll_snoc (l : List Seg) (k : Nat) (h : k < l.length) (m : Mem) (hm : layAll (l.take k) = some m) : layAll (l.take (k + 1)) = m.step l[k] := by
  unfold layAll at *
  rw [List.take_succ_eq_append_getElem h, List.foldlM_append, hm]
  show (List.foldlM Mem.step m [l[k]]) = _
  simp
theorem layAll_none (l : List Seg) (k : Nat) (h : layAll (l.take k) = none) : layAll l = none := by
  unfold layAll at *
  rw [← List.take_append_drop k l, List.foldlM_append, h]; rfl

set_option maxRecDepth 100000 in
set_option maxHeartbeats 2000000 in
theorem lay_any (w : World) (a : Option Addr) (b o cap : Nat) (l : List Seg) (ha : l ≠ [] → a = some ⟨b, o, none⟩) (hl : SegsAt w b o l) (hok : ∀ s ∈ l, s.ok) (hb : l ≠ [] → b < w.heap.size) (hlen : l.length < 4611686018427387904) :
    Calls Try.prog 57 #[.slice a l.length cap] w fun e w' => (∀ m, layAll l = some m → e = .returned (.tuple #[.pointer (some ⟨w.heap.size, 0, none⟩), .bool true]) ∧ MemAt w' w.heap.size m) ∧ (layAll l = none → e = .returned (.tuple #[.pointer none, .bool false])) ∧ Below w.heap.size w w' := by
  go_enter Try.func57, Try.ntmps57
  go_wp2
  go_loopw [2, 3, 5, 6] (fun r2 r3 i r6 wr => ∃ k : Nat, k ≤ l.length ∧ i = .int .i64 k ∧ (∃ m, Hid (layAll (l.take k) = some m) ∧ MemAt wr w.heap.size m) ∧ Below w.heap.size w wr) (fun _ _ i _ _ => l.length - (intOf i).toNat)
  case atStart =>
    refine ⟨0, by omega, rfl, ⟨mem0, rfl, ⟨?_, mem0_wf⟩⟩, (Below.refl _ _).alloc (Nat.le_refl _) _⟩
    rw [heap_alloc_new, zero86]
  case round =>
    obtain ⟨k, hk, rfl, ⟨m, hlm, hm⟩, hbel⟩ := hrel
    by_cases hlt : k < l.length
    · have hne : l ≠ [] := by intro e; simp [e] at hlt
      obtain rfl := ha hne
      have hb' := hb hne
      obtain ⟨c1, c2, c3⟩ := hl k hlt
      have d1 : wr.cell? ⟨b, o + k * 3, none⟩ = some (.int .i64 l[k].addr) := (hbel.cell (p := ⟨b, o + k * 3, none⟩) hb').trans c1
      have d2 : wr.cell? ⟨b, o + k * 3 + 1, none⟩ = some (.int .i64 l[k].size) := (hbel.cell (p := ⟨b, o + k * 3 + 1, none⟩) hb').trans c2
      have d3 : wr.cell? ⟨b, o + k * 3 + 2, none⟩ = some (.string l[k].data) := (hbel.cell (p := ⟨b, o + k * 3 + 2, none⟩) hb').trans c3
      clear c1 c2 c3
      have hsok := hok l[k] (List.getElem_mem hlt)
      cases hst : (l[k].fits && m.freeS l[k])
      · have hnone : Hid (layAll l = none) := by
          apply layAll_none l (k + 1)
          rw [layAll_snoc l k hlt m hlm.out, Mem.step, hst]; rfl
        have HST : Hid ((l[k].fits && m.freeS l[k]) = false) := hst
        clear hst
        go_wp2_with (go_at_call 63; refine (add_any wr _ m l[k] hm hsok).mono ?_; rintro e w2 ⟨rfl, hm2, ho2⟩; rw [HST.out]; clear hm2)
        go_ret2
        refine ⟨fun m' hm' => ?_, fun _ => rfl, hbel.trans (ho2.below hbel.size (fun k hk => by omega))⟩
        rw [hnone.out] at hm'; cases hm'
      · have hsome : Hid (layAll (l.take (k + 1)) = some (m.putS l[k])) := by
          unfold Hid; rw [layAll_snoc l k hlt m hlm.out, Mem.step, hst]; rfl
        have HST : Hid ((l[k].fits && m.freeS l[k]) = true) := hst
        clear hst
        go_wp2_with (go_at_call 63; refine (add_any wr _ m l[k] hm hsok).mono ?_; rintro e w2 ⟨rfl, hm2, ho2⟩; rw [HST.out]; replace hm2 := hm2 HST.out)
        go_roundw
        case rel => exact ⟨k + 1, by omega, by go_num, ⟨_, hsome, hm2⟩, hbel.trans (ho2.below hbel.size (fun k hk => by omega))⟩
        case measure => simp [intOf]; omega
    · have hall : Hid (layAll l = some m) := by
        have := hlm.out
        rwa [List.take_of_length_le (by omega)] at this
      go_wp2
      go_ret2
      refine ⟨fun m' hm' => ?_, fun hn => ?_, hbel⟩
      · rw [hall.out] at hm'; cases hm'; exact ⟨rfl, hm⟩
      · rw [hall.out] at hn; cases hn

end Go.Proofs.Ytcokahccbjdeaaa
