import Derived.Test.YtcokahccbjdeaabDoorUns
import Derived.Test.YtcokahccbjdeaabDoorStD
import Derived.Test.YtcokahccbjdeaabDoorStK

namespace Go.Proofs.YtcokahccbjdeaabDoor
open Go.RowKit

theorem unpack_ne {l : List UInt8} {v e : Int} {rs : List Seg} (h : unpackM l = some (v, e, rs)) : rs ≠ [] ∧ rs.length ≤ 8 := by
  unfold unpackM at h
  split at h
  · cases h
  · split at h
    · rename_i hp
      simp only [Option.some.injEq, Prod.mk.injEq] at h
      obtain ⟨rfl, rfl, rfl⟩ := h
      obtain ⟨m, _, _, haf, _⟩ := pack_ok hp
      simp only [allFit, Bool.and_eq_true, decide_eq_true_eq] at haf
      refine ⟨fun e => ?_, haf.1.2⟩
      rw [e] at haf
      simp at haf
    · cases h

theorem own_row {w : World} {base n : Nat} {a : Option Addr} {cap : Nat} {xs : List Value} (h : w.ownsRow base 77 3 (.slice a n cap) n xs) (hn : 0 < n) :
    ∃ g cur, a = some ⟨g, 0, none⟩ ∧ base ≤ g ∧ w.heap[g]? = some (.cells cur 77 (0, 0)) ∧ cur.size = cap * 3 ∧ n ≤ cap ∧ cap ≤ 9223372036854775807 ∧ cur.toList.take (n * 3) = xs := by
  rcases h.2 with ⟨_, h0⟩ | ⟨g, cap', cur, hv, hg, hh, h1, h2, h3, h4⟩
  · omega
  · cases hv
    exact ⟨g, cur, rfl, hg, hh, h3, h1, h2, h4⟩

theorem segs_of_cur {w : World} {g : Nat} {l : List Seg} {cur : Array Value} (h : w.heap[g]? = some (.cells cur 77 (0, 0))) (hc : cur.toList.take (l.length * 3) = segCells l) : SegsAt w g 0 l := by
  have e : cur = (segCells l ++ cur.toList.drop (l.length * 3)).toArray := by
    rw [← hc, List.take_append_drop]
  rw [e] at h
  exact segs_of_row h ⟨_, rfl⟩


theorem unpack_mem {l : List UInt8} {v e : Int} {rs : List Seg} (h : unpackM l = some (v, e, rs)) : ∃ m, layAll rs = some m ∧ m.wf ∧ (∀ s ∈ rs, s.fits = true) ∧ drawAll rs = (m, true) := by
  unfold unpackM at h
  split at h
  · cases h
  · split at h
    · rename_i hp
      simp only [Option.some.injEq, Prod.mk.injEq] at h
      obtain ⟨rfl, rfl, rfl⟩ := h
      obtain ⟨m, _, _, haf, hm, _⟩ := pack_ok hp
      simp only [allFit, Bool.and_eq_true] at haf
      have hf := List.all_eq_true.1 haf.2
      refine ⟨m, hm, layAll_wf hm, hf, ?_⟩
      have := lay_draw _ hf
      rw [hm] at this
      split at this
      · rename_i hc
        exact Prod.ext (Option.some.inj this).symm hc
      · cases this
    · cases h

theorem conv_ram (w : World) (g : Nat) (m : Mem) (h : MemAt w g m) : (convert 57 9 (.slice (some ⟨g, 128, none⟩) 128 128)).run Tryd.prog w = .ok (.string (mk m.byt)) w := by
  have := conv_mem w g m h 0 128 128 (by omega)
  rw [List.drop_zero, List.take_of_length_le (by rw [h.wf.2]; omega)] at this
  exact this


theorem three_cellsO {w w2 : World} {S : Nat → Prop} {g : Nat} {x y z : Value} {t : TypeId} (hb : Only S w w2) (hs : ¬ S g) (hg : w.heap[g]? = some (.cells #[x, y, z] t (0, 0))) :
    w2.heap[g]? = some (.cells #[x, y, z] t (0, 0)) ∧ w2.cell? ⟨g, 0, none⟩ = some x ∧ w2.cell? ⟨g, 1, none⟩ = some y ∧ w2.cell? ⟨g, 2, none⟩ = some z ∧ ∀ o, w2.frozen? ⟨g, o, none⟩ = false := by
  have h2 : w2.heap[g]? = some (.cells #[x, y, z] t (0, 0)) := by rw [hb.block g (Array.getElem?_eq_some_iff.1 hg).1 hs]; exact hg
  exact ⟨h2, by rw [cell_of_heap h2]; rfl, by rw [cell_of_heap h2]; rfl, by rw [cell_of_heap h2]; rfl, fun o => free_of_heap h2⟩

theorem ram_step (l : List UInt8) (k : Nat) (h : k < l.length) : (l.take k ++ List.replicate (l.length - k) (0 : UInt8)).set k (l.getD k 0) = l.take (k + 1) ++ List.replicate (l.length - (k + 1)) 0 := by
  rw [List.set_append_right _ _ (by simp; omega)]
  obtain ⟨n, hn⟩ : ∃ n, l.length - k = n + 1 := ⟨l.length - k - 1, by omega⟩
  rw [hn, show l.length - (k + 1) = n by omega, List.length_take, Nat.min_eq_left (by omega), Nat.sub_self, List.replicate_succ, List.set_cons_zero, List.take_succ_eq_append_getElem h, getD_get l k h, List.append_assoc]; rfl

end Go.Proofs.YtcokahccbjdeaabDoor

namespace Go.Proofs.YtcokahccbjdeaabDoor
open Go.RowKit

/-- What Load answers of a text: version, entry, memory. -/
def loadedB (s : ByteArray) : Int × Int × ByteArray := match unpackM s.data.toList with
  | none => (0, 0, ⟨#[]⟩)
  | some (v, e, rs) => (v, e, mk (drawAll rs).1.byt)
theorem jump_alloc {w : World} {g : Nat} (H : w.heap[g]? = some (.cells #[.bool false, .int .i64 0, .int .i64 0, .string ⟨#[]⟩] 54 (0, 0))) :
    (∀ x, (w.alloc x).cell? ⟨g, 0, none⟩ = some (.bool false)) ∧ (∀ x, (w.alloc x).cell? ⟨g, 1, none⟩ = some (.int .i64 0)) ∧ (∀ x, (w.alloc x).cell? ⟨g, 2, none⟩ = some (.int .i64 0)) ∧ (∀ x, (w.alloc x).cell? ⟨g, 3, none⟩ = some (.string ⟨#[]⟩)) ∧ (∀ x o, (w.alloc x).frozen? ⟨g, o, none⟩ = false) := by
  refine ⟨?_, ?_, ?_, ?_, fun x o => free_of_heap (alloc_heap H x)⟩ <;> (intro x; rw [cell_of_heap (alloc_heap H x)]; rfl)
end Go.Proofs.YtcokahccbjdeaabDoor

namespace Go.Proofs.YtcokahccbjdeaabDoor
open Go.RowKit

set_option maxRecDepth 100000 in
set_option maxHeartbeats 2000000 in
theorem load_none (w : World) (s : ByteArray) (hs : s.size < 4611686018427387904) (h : unpackM s.data.toList = none) :
    Calls Tryd.prog 56 #[.string s] w fun e w' => e = .returned (.tuple #[.agg #[.int .i64 0, .int .i64 0, .string ⟨#[]⟩], .int .i64 6]) ∧ Below w.heap.size w w' := by
  have HU := fun wx => unpack_none wx s hs h
  clear h
  go_enter Tryd.func56, Tryd.ntmps56
  go_wp2_with (go_at_call 51; refine (HU _).mono ?_; rintro en w2 ⟨rfl, hb2⟩; obtain ⟨hg2, q0, q1, q2, fz⟩ := three_cells hb2 (heap_alloc_new w _); clear hg2)
  refine bodyPost_ret (v := .tuple #[.agg #[.int .i64 0, .int .i64 0, .string ⟨#[]⟩], .int .i64 6]) (by simp [results, Tryd.results56, go_sem, q0, q1, q2]) rfl ⟨rfl, ?_⟩
  have hbT : Below w.heap.size w w2 := ((Below.refl w.heap.size w).alloc (Nat.le_refl _) _).trans (hb2.mono (by simp))
  exact ((hbT.setCell (Nat.le_refl _) _).setCell (Nat.le_refl _) _).setCell (Nat.le_refl _) _

set_option maxRecDepth 100000 in
set_option maxHeartbeats 2000000 in
theorem load_some (w : World) (s : ByteArray) (v e : Int) (rs : List Seg) (m : Mem) (h : unpackM s.data.toList = some (v, e, rs)) (hm : layAll rs = some m) :
    Calls Tryd.prog 56 #[.string s] w fun en w' => en = .returned (.tuple #[.agg #[.int .i64 v, .int .i64 e, .string (mk m.byt)], .int .i64 0]) ∧ Below w.heap.size w w' := by
  have HU := fun wx => unpack_some wx s v e rs h
  obtain ⟨hne, hl8⟩ := unpack_ne h
  have hok : ∀ x ∈ rs, x.ok := by
    unfold unpackM at h
    split at h
    · cases h
    · rename_i v' e' rs' hd
      split at h
      · simp only [Option.some.injEq, Prod.mk.injEq] at h
        obtain ⟨rfl, rfl, rfl⟩ := h
        exact (decM_ok hd).1
      · cases h
  have HL : ∀ (w3 : World) (a : Option Addr) (cap base : Nat), w3.ownsRow base 77 3 (.slice a rs.length cap) rs.length (segCells rs) → Calls Tryd.prog 63 #[.slice a rs.length cap] w3 fun e w' => e = .returned (.tuple #[.pointer (some ⟨w3.heap.size, 0, none⟩), .bool true]) ∧ MemAt w' w3.heap.size m ∧ Below w3.heap.size w3 w' := by
    intro w3 a cap base hown
    obtain ⟨_, a1, b1, cap1, he, r1, r2, r3, _, _⟩ := SegsAt_of_own hown
    cases he
    exact (lay_any w3 a b1 0 cap rs r1 r2 hok (fun h => (r3 h).1) (by omega)).mono fun _ _ hh => ⟨(hh.1 m hm).1, (hh.1 m hm).2, hh.2.2⟩
  clear h hm hok
  go_enter Tryd.func56, Tryd.ntmps56
  go_wp2_with (first
    | (go_at_call 51; refine (HU _).mono ?_; rintro en w2 ⟨a, cap, rfl, hown, hb2⟩)
    | (go_at_call 63; refine (HL w2 a cap _ hown).mono ?_; rintro en w3 ⟨rfl, hmm, hb3⟩; obtain ⟨hg2, q0, q1, q2, fz⟩ := three_cells (hb2.trans (hb3.mono hb2.size)) (heap_alloc_new w _); clear hg2; have hcv := conv_ram w3 _ m hmm))
  refine bodyPost_ret (v := .tuple #[.agg #[.int .i64 v, .int .i64 e, .string (mk m.byt)], .int .i64 0]) (by simp [results, Tryd.results56, go_sem, q0, q1, q2]) rfl ⟨rfl, ?_⟩
  have hbT : Below w.heap.size w w3 := ((Below.refl w.heap.size w).alloc (Nat.le_refl _) _).trans ((hb2.trans (hb3.mono hb2.size)).mono (by simp))
  exact ((hbT.setCell (Nat.le_refl _) _).setCell (Nat.le_refl _) _).setCell (Nat.le_refl _) _
theorem load_any (w : World) (s : ByteArray) (hs : s.size < 4611686018427387904) :
    Calls Tryd.prog 56 #[.string s] w fun en w' => en = .returned (.tuple #[.agg #[.int .i64 (loadedB s).1, .int .i64 (loadedB s).2.1, .string (loadedB s).2.2], .int .i64 (if verB s < 0 then 6 else 0)]) ∧ Below w.heap.size w w' := by
  cases hu : unpackM s.data.toList with
  | none =>
    have hv : verB s = -1 := by unfold verB verM; rw [hu]
    have hl : loadedB s = (0, 0, ⟨#[]⟩) := by unfold loadedB; rw [hu]
    rw [hv, hl]
    exact load_none w s hs hu
  | some q =>
    obtain ⟨v, e, rs⟩ := q
    obtain ⟨m, h1, h2, h3, h4⟩ := unpack_mem hu
    have h0 := (unpack_ver hu).1
    have hv : verB s = v := by unfold verB verM; rw [hu]
    have hl : loadedB s = (v, e, mk m.byt) := by unfold loadedB; rw [hu]; simp only [h4]
    rw [hv, hl, if_neg (by omega)]
    exact load_some w s v e rs m hu h1
theorem loaded_no {s : ByteArray} (h : verB s < 0) : loadedB s = (0, 0, ⟨#[]⟩) := by
  unfold loadedB
  unfold verB verM at h
  split at h
  · rename_i hu; rw [hu]
  · rename_i hu; have := (unpack_ver hu).1; omega
theorem ver_none : verB (tx []) < 0 := by
  by_cases h : 0 ≤ verM (tx []).data.toList
  · exact absurd rfl (ver_len _ h).2
  · unfold verB; omega
def noJump : Array Value := #[.bool false, .int .i64 0, .int .i64 0, .string ⟨#[]⟩]
theorem jump_cells {w : World} {g : Nat} (H : w.heap[g]? = some (.cells noJump 54 (0, 0))) :
    w.cell? ⟨g, 0, none⟩ = some (.bool false) ∧ w.cell? ⟨g, 1, none⟩ = some (.int .i64 0) ∧ w.cell? ⟨g, 2, none⟩ = some (.int .i64 0) ∧ w.cell? ⟨g, 3, none⟩ = some (.string ⟨#[]⟩) ∧ (∀ o, w.frozen? ⟨g, o, none⟩ = false) := by
  refine ⟨?_, ?_, ?_, ?_, fun o => free_of_heap H⟩ <;> (rw [cell_of_heap H]; rfl)
/-- A boot's answer, as it lies. -/
def jumpV (t : Bool) (s : ByteArray) : Array Value := #[.bool t, .int .i64 (loadedB s).1, .int .i64 (loadedB s).2.1, .string (loadedB s).2.2]
set_option maxRecDepth 100000 in
set_option maxHeartbeats 4000000 in
theorem jump_ok (w : World) (s : ByteArray) (t : Bool) (hs : s.size < 4611686018427387904) (hv : 0 ≤ verB s) :
    Calls Tryd.prog 46 #[.string s, .bool t] w fun e w' => e = .returned (.agg (jumpV t s)) ∧ Below w.heap.size w w' := by
  have HL := fun wx => load_any wx s hs
  rw [if_neg (by omega)] at HL
  unfold jumpV
  generalize loadedB s = lo at *
  obtain ⟨a, b, c⟩ := lo
  simp only at *
  have hb1 : ∀ o, Below w.heap.size w (w.alloc o) := fun o => (Below.refl _ _).alloc (Nat.le_refl _) _
  go_enter Tryd.func46, Tryd.ntmps46
  go_wp2_with (go_at_call 56; refine (HL _).mono ?_; rintro en w2 ⟨rfl, hb⟩; have hB := below_heap hb (heap_alloc_new w _); obtain ⟨r0, r1, r2, r3, rf⟩ := jump_alloc hB)
  refine bodyPost_ret (v := .agg #[.bool t, .int .i64 a, .int .i64 b, .string c]) (by simp [results, Tryd.results46, go_sem, r0, r1, r2, r3]) rfl ⟨rfl, ?_⟩
  have hbw := (hb1 _).trans (hb.mono (by simp))
  have hbA := hbw.alloc hbw.size (.cells #[.int .i64 a, .int .i64 b, .string c] 52)
  have hle := Nat.le_refl w.heap.size
  exact (((hbA.setCell hle _).setCell hle _).setCell hle _).setCell hle _
end Go.Proofs.YtcokahccbjdeaabDoor
