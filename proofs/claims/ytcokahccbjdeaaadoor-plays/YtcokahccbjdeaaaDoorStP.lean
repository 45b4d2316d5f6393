import Derived.Test.YtcokahccbjdeaaaDoorStM
namespace Go.Proofs.YtcokahccbjdeaaaDoor
open Go.RowKit

def RefS.v (r : RefS) : Value := .agg #[.bool r.made, .string r.h.good, .int .i64 r.h.floor, .string r.h.trial, .int .i64 r.h.tries, .int .i64 r.h.size, .string r.h.got]
def RefS.cs (r : RefS) : Array Value := #[.bool r.made, .string r.h.good, .int .i64 r.h.floor, .string r.h.trial, .int .i64 r.h.tries, .int .i64 r.h.size, .string r.h.got]
def noRef : RefS := ⟨false, noHeld⟩
theorem ref_cells {w : World} {g : Nat} {r : RefS} (H : w.heap[g]? = some (.cells r.cs 83 (0, 0))) :
    w.cell? ⟨g, 0, none⟩ = some (.bool r.made) ∧ w.cell? ⟨g, 1, none⟩ = some (.string r.h.good) ∧ w.cell? ⟨g, 2, none⟩ = some (.int .i64 r.h.floor) ∧ w.cell? ⟨g, 3, none⟩ = some (.string r.h.trial) ∧ w.cell? ⟨g, 4, none⟩ = some (.int .i64 r.h.tries) ∧
    w.cell? ⟨g, 5, none⟩ = some (.int .i64 r.h.size) ∧ w.cell? ⟨g, 6, none⟩ = some (.string r.h.got) ∧ (∀ o, w.frozen? ⟨g, o, none⟩ = false) := by
  refine ⟨?_, ?_, ?_, ?_, ?_, ?_, ?_, fun o => free_of_heap H⟩ <;> (rw [cell_of_heap H]; rfl)

/-- the document's Unpack, as far as it is asked here -/
theorem refUnp (w : World) (s : ByteArray) (hs : s.size < 4611686018427387904) :
    Calls Tryd.prog 88 #[.string s] w fun en w' => ∃ (v e : Int) (a : Option Addr) (n cap : Nat), en = .returned (.tuple #[.int .i64 v, .int .i64 e, .slice a n cap, .int .i64 (if verB s < 0 then 6 else 0)]) ∧ v = (if verB s < 0 then 0 else verB s) ∧ Below w.heap.size w w' := by
  refine (refUnpack_any w s hs).mono ?_
  rintro en w' ⟨h1, h2, h3⟩
  cases hu : unpackM s.data.toList with
  | none =>
    have hv : verB s = -1 := by unfold verB verM; rw [hu]
    have hr : unpackR s.data.toList = none := by rw [← unpack_eq]; exact hu
    exact ⟨0, 0, none, 0, 0, by rw [h1 hr, hv]; rfl, by rw [hv]; rfl, h3⟩
  | some q =>
    obtain ⟨v, e, rs⟩ := q
    have hv : verB s = v := by unfold verB verM; rw [hu]
    have h0 := (unpack_ver hu).1
    have hr : unpackR s.data.toList = some (v, e, rs) := by rw [← unpack_eq]; exact hu
    obtain ⟨a, cap, h4, _⟩ := h2 v e rs hr
    exact ⟨v, e, a, rs.length, cap, by rw [h4, hv, if_neg (by omega)], by rw [hv, if_neg (by omega)], h3⟩

set_option maxRecDepth 100000 in
theorem refVersion (w : World) (s : ByteArray) (hs : s.size < 4611686018427387904) :
    Calls Tryd.prog 87 #[.string s] w fun e w' => e = .returned (.int .i64 (if verB s < 0 then 0 else verB s)) ∧ Below w.heap.size w w' := by
  have HU := refUnp w s hs
  generalize (if verB s < 0 then 0 else verB s) = vv at *
  generalize (if verB s < 0 then (6 : Int) else 0) = ee at *
  go_enter Tryd.func87, Tryd.ntmps87
  go_wp2_with (go_at_call 88; refine HU.mono ?_; rintro en w2 ⟨v, e, a, n, cap, rfl, hv, hb⟩; subst hv)
  go_ret
  exact ⟨rfl, hb⟩

set_option maxRecDepth 100000 in
set_option maxHeartbeats 4000000 in
theorem refFormat (w : World) (r : RefS) (img : ByteArray) (hi : img.size < 4611686018427387904) :
    Calls Tryd.prog 63 #[r.v, .string img] w fun e w' => e = .returned (.tuple #[(r.format img).1.v, .int .i64 (r.format img).2]) ∧ Below w.heap.size w w' := by
  obtain ⟨md, gd, fl, tr, ts, sz, gt⟩ := r
  have hb2 : ∀ o p, Below w.heap.size w ((w.alloc o).alloc p) := fun o p => ((Below.refl _ _).alloc (Nat.le_refl _) _).alloc (by simp) _
  cases md
  · have HU := fun wx => refUnp wx img hi
    by_cases hv : verB img < 0
    · have HF : Hid (RefS.format ⟨false, gd, fl, tr, ts, sz, gt⟩ img = (⟨false, gd, fl, tr, ts, sz, gt⟩, 6)) := by unfold RefS.format Hid; simp only [Bool.false_eq_true, if_false, if_pos hv]
      simp only [if_pos hv, RefS.v] at *
      clear hv
      go_enter Tryd.func63, Tryd.ntmps63
      go_wp2_with (go_at_call 88; refine (HU _).mono ?_; rintro en w2 ⟨v, e, a, n, cap, rfl, hv, hb⟩; clear hv; have hA := below_heap hb (heap_alloc2_old w _ _); have hB := below_heap hb (heap_alloc2_new w _ _); have hA' : w2.heap[w.heap.size]? = some (.cells (RefS.cs ⟨false, gd, fl, tr, ts, sz, gt⟩) 83 (0, 0)) := hA; have hB' : w2.heap[w.heap.size + 1]? = some (.cells noRef.cs 83 (0, 0)) := hB; clear hA hB; obtain ⟨q0, q1, q2, q3, q4, q5, q6, qf⟩ := ref_cells hA'; obtain ⟨r0, r1, r2, r3, r4, r5, r6, rf⟩ := ref_cells hB'; simp only [noRef, noHeld] at q0 q1 q2 q3 q4 q5 q6 r0 r1 r2 r3 r4 r5 r6)
      refine bodyPost_ret (v := .tuple #[RefS.v ⟨false, gd, fl, tr, ts, sz, gt⟩, .int .i64 6]) (by simp [results, Tryd.results63, go_sem, RefS.v, r0, r1, r2, r3, r4, r5, r6]) rfl ⟨by rw [HF.out]; rfl, ?_⟩
      have hbw := (hb2 _ _).trans (hb.mono (by simp; omega))
      have hle : w.heap.size ≤ w.heap.size + 1 := by omega
      exact ((((((hbw.setCell hle _).setCell hle _).setCell hle _).setCell hle _).setCell hle _).setCell hle _).setCell hle _
    · have HF : Hid (RefS.format ⟨false, gd, fl, tr, ts, sz, gt⟩ img = (⟨true, img, verB img, ⟨#[]⟩, 0, 0, ⟨#[]⟩⟩, 0)) := by unfold RefS.format Hid; simp only [Bool.false_eq_true, if_false, if_neg hv]; rfl
      simp only [if_neg hv, RefS.v] at *
      generalize verB img = vi at *
      clear hv
      go_enter Tryd.func63, Tryd.ntmps63
      go_wp2_with (go_at_call 88; refine (HU _).mono ?_; rintro en w2 ⟨v, e, a, n, cap, rfl, hv, hb⟩; subst hv; have hB := below_heap hb (heap_alloc2_new w _ _); have hB' : w2.heap[w.heap.size + 1]? = some (.cells noRef.cs 83 (0, 0)) := hB; clear hB; obtain ⟨r0, r1, r2, r3, r4, r5, r6, rf⟩ := ref_cells hB'; simp only [noRef, noHeld] at r0 r1 r2 r3 r4 r5 r6)
      refine bodyPost_ret (v := .tuple #[RefS.v ⟨true, img, v, ⟨#[]⟩, 0, 0, ⟨#[]⟩⟩, .int .i64 0]) (by simp [results, Tryd.results63, go_sem, RefS.v, r0, r1, r2, r3, r4, r5, r6]) rfl ⟨by rw [HF.out]; rfl, ?_⟩
      have hbw := (hb2 _ _).trans (hb.mono (by simp; omega))
      have hle : w.heap.size ≤ w.heap.size + 1 := by omega
      exact ((((((hbw.setCell hle _).setCell hle _).setCell hle _).setCell hle _).setCell hle _).setCell hle _).setCell hle _
  · have HF : Hid (RefS.format ⟨true, gd, fl, tr, ts, sz, gt⟩ img = (⟨true, gd, fl, tr, ts, sz, gt⟩, 7)) := rfl
    simp only [RefS.v] at *
    go_enter Tryd.func63, Tryd.ntmps63
    go_wp2
    refine bodyPost_ret (v := .tuple #[RefS.v ⟨true, gd, fl, tr, ts, sz, gt⟩, .int .i64 7]) (by simp [results, Tryd.results63, go_sem, RefS.v]) rfl ⟨by rw [HF.out]; rfl, hb2 _ _⟩
end Go.Proofs.YtcokahccbjdeaaaDoor
