import Derived.Test.YtcokahccbjdeaaaLawF
namespace Go.Proofs.Ytcokahccbjdeaaa
open Go.RowKit

theorem unpack_mem {l : List UInt8} {v e : Int} {rs : List Seg} (h : unpackM l = some (v, e, rs)) : ∃ m, layAll rs = some m ∧ m.wf ∧ (∀ s ∈ rs, s.fits = true) ∧ drawAll rs = (m, true) := by
  unfold unpackM at h
  split at h
  · cases h
  · split at h
    · rename_i hp
      simp only [Option.some.injEq, Prod.mk.injEq] at h
      obtain ⟨rfl, rfl, rfl⟩ := h
      obtain ⟨m, _, _, haf, hm, _⟩ := pack_ok hp
      simp only [allFit, Bool.and_eq_true] at haf
      have hf := List.all_eq_true.1 haf.2
      refine ⟨m, hm, layAll_wf hm, hf, ?_⟩
      have := lay_draw _ hf
      rw [hm] at this
      split at this
      · rename_i hc
        exact Prod.ext (Option.some.inj this).symm hc
      · cases this
    · cases h

theorem conv_ram (w : World) (g : Nat) (m : Mem) (h : MemAt w g m) : (convert 49 9 (.slice (some ⟨g, 128, none⟩) 128 128)).run Try.prog w = .ok (.string (mk m.byt)) w := by
  have := conv_mem w g m h 0 128 128 (by omega)
  rw [List.drop_zero, List.take_of_length_le (by rw [h.wf.2]; omega)] at this
  exact this

set_option maxRecDepth 100000 in
set_option maxHeartbeats 2000000 in
theorem load_none (w : World) (s : ByteArray) (hs : s.size < 4611686018427387904) (h : unpackM s.data.toList = none) :
    Calls Try.prog 51 #[.string s] w fun e w' => e = .returned (.tuple #[.agg #[.int .i64 0, .int .i64 0, .string ⟨#[]⟩], .int .i64 6]) ∧ Below w.heap.size w w' := by
  have HU := fun wx => unpack_none wx s hs h
  clear h
  go_enter Try.func51, Try.ntmps51
  go_wp2_with (go_at_call 50; refine (HU _).mono ?_; rintro en w2 ⟨rfl, hb2⟩; obtain ⟨hg2, q0, q1, q2, fz⟩ := three_cells hb2 (heap_alloc_new w _); clear hg2)
  refine bodyPost_ret (v := .tuple #[.agg #[.int .i64 0, .int .i64 0, .string ⟨#[]⟩], .int .i64 6]) (by simp [results, Try.results51, go_sem, q0, q1, q2]) rfl ⟨rfl, ?_⟩
  have hbT : Below w.heap.size w w2 := ((Below.refl w.heap.size w).alloc (Nat.le_refl _) _).trans (hb2.mono (by simp))
  exact ((hbT.setCell (Nat.le_refl _) _).setCell (Nat.le_refl _) _).setCell (Nat.le_refl _) _

set_option maxRecDepth 100000 in
set_option maxHeartbeats 2000000 in
theorem load_some (w : World) (s : ByteArray) (v e : Int) (rs : List Seg) (m : Mem) (h : unpackM s.data.toList = some (v, e, rs)) (hm : layAll rs = some m) :
    Calls Try.prog 51 #[.string s] w fun en w' => en = .returned (.tuple #[.agg #[.int .i64 v, .int .i64 e, .string (mk m.byt)], .int .i64 0]) ∧ Below w.heap.size w w' := by
  have HU := fun wx => unpack_some wx s v e rs h
  obtain ⟨hne, hl8⟩ := unpack_ne h
  have hok : ∀ x ∈ rs, x.ok := by
    unfold unpackM at h
    split at h
    · cases h
    · rename_i v' e' rs' hd
      split at h
      · simp only [Option.some.injEq, Prod.mk.injEq] at h
        obtain ⟨rfl, rfl, rfl⟩ := h
        exact (decM_ok hd).1
      · cases h
  have HL : ∀ (w3 : World) (a : Option Addr) (cap base : Nat), w3.ownsRow base 43 3 (.slice a rs.length cap) rs.length (segCells rs) → Calls Try.prog 57 #[.slice a rs.length cap] w3 fun e w' => e = .returned (.tuple #[.pointer (some ⟨w3.heap.size, 0, none⟩), .bool true]) ∧ MemAt w' w3.heap.size m ∧ Below w3.heap.size w3 w' := by
    intro w3 a cap base hown
    obtain ⟨_, a1, b1, cap1, he, r1, r2, r3, _, _⟩ := SegsAt_of_own hown
    cases he
    exact (lay_any w3 a b1 0 cap rs r1 r2 hok (fun h => (r3 h).1) (by omega)).mono fun _ _ hh => ⟨(hh.1 m hm).1, (hh.1 m hm).2, hh.2.2⟩
  clear h hm hok
  go_enter Try.func51, Try.ntmps51
  go_wp2_with (first
    | (go_at_call 50; refine (HU _).mono ?_; rintro en w2 ⟨a, cap, rfl, hown, hb2⟩)
    | (go_at_call 57; refine (HL w2 a cap _ hown).mono ?_; rintro en w3 ⟨rfl, hmm, hb3⟩; obtain ⟨hg2, q0, q1, q2, fz⟩ := three_cells (hb2.trans (hb3.mono hb2.size)) (heap_alloc_new w _); clear hg2; have hcv := conv_ram w3 _ m hmm))
  refine bodyPost_ret (v := .tuple #[.agg #[.int .i64 v, .int .i64 e, .string (mk m.byt)], .int .i64 0]) (by simp [results, Try.results51, go_sem, q0, q1, q2]) rfl ⟨rfl, ?_⟩
  have hbT : Below w.heap.size w w3 := ((Below.refl w.heap.size w).alloc (Nat.le_refl _) _).trans ((hb2.trans (hb3.mono hb2.size)).mono (by simp))
  exact ((hbT.setCell (Nat.le_refl _) _).setCell (Nat.le_refl _) _).setCell (Nat.le_refl _) _
end Go.Proofs.Ytcokahccbjdeaaa
