import Derived.Test.YtcokahccbjdeaabDoorDevs
import Derived.Deep.DeepCutAuto
import Derived.Deep.RegionWith
import Derived.Deep.DeepFit
import Derived.Deep.QuietTactic
import Derived.BigQuiet
namespace Go.Proofs.YtcokahccbjdeaabDoor
open Go.RowKit

set_option maxRecDepth 100000 in
theorem version_any (w : World) (s : ByteArray) (hs : s.size < 4611686018427387904) :
    Calls Tryd.prog 30 #[.string s] w fun e w' => e = .returned (.int .i64 (verB s)) ∧ Below w.heap.size w w' := by
  cases hu : unpackM s.data.toList with
  | none =>
    have HU := unpack_none w s hs hu
    have HV : Hid (verB s = -1) := by unfold verB verM Hid; rw [hu]
    clear hu
    go_enter Tryd.func30, Tryd.ntmps30
    go_wp2_with (go_at_call 51; refine HU.mono ?_; rintro en w2 ⟨rfl, hb⟩)
    go_ret
    exact ⟨by rw [HV.out]; rfl, hb⟩
  | some q =>
    obtain ⟨v, e, rs⟩ := q
    have HU := unpack_some w s v e rs hu
    have HV : Hid (verB s = v) := by unfold verB verM Hid; rw [hu]
    clear hu
    go_enter Tryd.func30, Tryd.ntmps30
    go_wp2_with (go_at_call 51; refine HU.mono ?_; rintro en w2 ⟨a, cap, rfl, hown, hb⟩)
    go_ret
    exact ⟨by rw [HV.out]; rfl, hb⟩

def HeldS.v (h : HeldS) : Value := .agg #[.string h.good, .int .i64 h.floor, .string h.trial, .int .i64 h.tries, .int .i64 h.size, .string h.got]
def HeldS.cs (h : HeldS) : Array Value := #[.string h.good, .int .i64 h.floor, .string h.trial, .int .i64 h.tries, .int .i64 h.size, .string h.got]
/-- Its numbers fit a machine. -/
structure HeldS.fit (h : HeldS) : Prop where
  g : h.good.size < 4611686018427387904
  t : h.trial.size < 4611686018427387904
  s : h.got.size < 4611686018427387904
  f0 : -1 ≤ h.floor
  f1 : h.floor ≤ 65535

theorem ne_empty {a : ByteArray} (h : ¬ a.size = 0) : a.toList.isEmpty = false := by
  rw [ByteArray.toList_eq]
  cases e : a.data.toList with
  | nil => exact absurd (by have := congrArg List.length e; rw [Array.length_toList] at this; exact this) h
  | cons => rfl
theorem int_beq (a b : Int) : (a == b) = decide (a = b) := rfl
theorem held_cells {w : World} {g : Nat} {h : HeldS} (H : w.heap[g]? = some (.cells h.cs 62 (0, 0))) :
    w.cell? ⟨g, 0, none⟩ = some (.string h.good) ∧ w.cell? ⟨g, 1, none⟩ = some (.int .i64 h.floor) ∧ w.cell? ⟨g, 2, none⟩ = some (.string h.trial) ∧
    w.cell? ⟨g, 3, none⟩ = some (.int .i64 h.tries) ∧ w.cell? ⟨g, 4, none⟩ = some (.int .i64 h.size) ∧ w.cell? ⟨g, 5, none⟩ = some (.string h.got) ∧ (∀ o, w.frozen? ⟨g, o, none⟩ = false) := by
  refine ⟨?_, ?_, ?_, ?_, ?_, ?_, fun o => free_of_heap H⟩ <;> (rw [cell_of_heap H]; rfl)

set_option maxRecDepth 100000 in
set_option maxHeartbeats 2000000 in
theorem lawful_any (w : World) (h : HeldS) (hg : h.good.size < 4611686018427387904) (ht : h.trial.size < 4611686018427387904) :
    Calls Tryd.prog 75 #[h.v] w fun e w' => e = .returned (.bool h.lawful) ∧ Below w.heap.size w w' := by
  have HV := fun wx => version_any wx h.good hg
  have HT := fun wx => version_any wx h.trial ht
  have HL : Hid (h.lawful = (!decide (verB h.good < h.floor) && (if 0 < h.size then decide (h.size ≤ 120) && decide ((h.got.size : Int) ≤ h.size) && decide (h.tries = 0)
    else if h.trial.size = 0 then decide (h.tries = 0) else decide (h.tries ≤ 3) && decide (h.floor ≤ verB h.trial)))) := rfl
  obtain ⟨gd, fl, tr, ts, sz, gt⟩ := h
  simp only [HeldS.v] at *
  go_enter Tryd.func75, Tryd.ntmps75
  go_wp2
  have hB : (w.alloc (.cells #[.string gd, .int .i64 fl, .string tr, .int .i64 ts, .int .i64 sz, .string gt] 62)).heap[w.heap.size]? = some (.cells (HeldS.cs ⟨gd, fl, tr, ts, sz, gt⟩) 62 (0, 0)) := heap_alloc_new w _
  have hbz : Below w.heap.size w (w.alloc (.cells #[.string gd, .int .i64 fl, .string tr, .int .i64 ts, .int .i64 sz, .string gt] 62)) := (Below.refl _ _).alloc (Nat.le_refl _) _
  generalize w.alloc (.cells #[.string gd, .int .i64 fl, .string tr, .int .i64 ts, .int .i64 sz, .string gt] 62) = wz at *
  obtain ⟨q0, q1, q2, q3, q4, q5, qf⟩ := held_cells hB
  simp only at q0 q1 q2 q3 q4 q5
  go_cut [8] (fun s8 wx => s8 = .bool (decide (verB gd < fl)) ∧ wx.heap[w.heap.size]? = some (.cells (HeldS.cs ⟨gd, fl, tr, ts, sz, gt⟩) 62 (0, 0)) ∧ Below w.heap.size w wx)
  case first =>
    have p0 : wz.drew.cell? ⟨w.heap.size, 0, none⟩ = some (.string gd) := q0
    have p1 : wz.drew.cell? ⟨w.heap.size, 1, none⟩ = some (.int .i64 fl) := q1
    go_region_with (go_at_call 30; refine (HV _).mono ?_; rintro en w2 ⟨rfl, hb2⟩; have hB2 := (hb2.block _ (Array.getElem?_eq_some_iff.1 hB).1).trans hB; obtain ⟨r0, r1, r2, r3, r4, r5, rf⟩ := held_cells hB2)
    all_goals (go_wp2_with fail; go_meet)
    all_goals exact ⟨rfl, hB2, hbz.drew.trans (hb2.mono hbz.size)⟩
  case rest =>
    obtain ⟨rfl, hB2, hbc⟩ := hcut
    clear q0 q1 q2 q3 q4 q5 qf HV
    obtain ⟨q0, q1, q2, q3, q4, q5, qf⟩ := held_cells hB2
    simp only at q0 q1 q2 q3 q4 q5
    by_cases h1 : verB gd < fl
    · have HR : Hid (HeldS.lawful ⟨gd, fl, tr, ts, sz, gt⟩ = false) := by rw [Hid, HL.out]; simp [h1]
      clear HL
      go_wp2
      go_ret
      exact ⟨by rw [HR.out]; rfl, hbc⟩
    · by_cases h2 : 0 < sz
      · have HR : Hid (HeldS.lawful ⟨gd, fl, tr, ts, sz, gt⟩ = (decide (sz ≤ 120) && decide ((gt.size : Int) ≤ sz) && decide (ts = 0))) := by rw [Hid, HL.out]; simp [h1, h2]
        clear HL
        by_cases h3 : sz ≤ 120
        · by_cases h4 : (gt.size : Int) ≤ sz
          · go_wp2
            go_ret
            exact ⟨by rw [HR.out]; simp [h3, h4, int_beq], hbc⟩
          · have D : Hid (decide ((gt.size : Int) ≤ sz) = false) := decide_eq_false h4
            go_wp2
            go_ret
            exact ⟨by rw [HR.out, D.out]; simp, hbc⟩
        · have D : Hid (decide (sz ≤ 120) = false) := decide_eq_false h3
          go_wp2
          go_ret
          exact ⟨by rw [HR.out, D.out]; simp, hbc⟩
      · by_cases h3 : tr.size = 0
        · have HR : Hid (HeldS.lawful ⟨gd, fl, tr, ts, sz, gt⟩ = decide (ts = 0)) := by rw [Hid, HL.out]; simp [h1, h2, h3]
          have e : tr = ⟨#[]⟩ := empty_of_size h3
          subst e
          clear HL
          go_wp2
          go_ret
          exact ⟨by rw [HR.out]; rfl, hbc⟩
        · have HR : Hid (HeldS.lawful ⟨gd, fl, tr, ts, sz, gt⟩ = (decide (ts ≤ 3) && decide (fl ≤ verB tr))) := by rw [Hid, HL.out]; simp [h1, h2, h3]
          have hne : tr.toList.isEmpty = false := ne_empty h3
          have hb1 : decide (verB gd < fl) = false := decide_eq_false h1
          clear HL
          by_cases h4 : ts ≤ 3
          · have ct : decide (ts ≤ 3) = true := decide_eq_true h4
            have D : Hid (decide (ts ≤ 3) = true) := ct
            go_wp2
            have p1 : wc.drew.cell? ⟨w.heap.size, 1, none⟩ = some (.int .i64 fl) := q1
            have p2 : wc.drew.cell? ⟨w.heap.size, 2, none⟩ = some (.string tr) := q2
            have p3 : wc.drew.cell? ⟨w.heap.size, 3, none⟩ = some (.int .i64 ts) := q3
            go_region_with (go_at_call 30; refine (HT _).mono ?_; rintro en w2 ⟨rfl, hb2⟩; have hB3 := (hb2.block _ (Array.getElem?_eq_some_iff.1 hB2).1).trans hB2; obtain ⟨r0, r1, r2, r3, r4, r5, rf⟩ := held_cells hB3)
            all_goals go_wp2
            all_goals go_ret
            all_goals exact ⟨by rw [HR.out, D.out]; rfl, hbc.drew.trans (hb2.mono hbc.size)⟩
          · have D : Hid (decide (ts ≤ 3) = false) := decide_eq_false h4
            have ct : decide (ts ≤ 3) = false := decide_eq_false h4
            go_wp2
            go_quiet (fail)
            go_wp2
            go_ret
            exact ⟨by rw [HR.out, D.out]; rfl, ⟨hbc.os, hbc.tape, hbc.output, hbc.size, hbc.block⟩⟩
end Go.Proofs.YtcokahccbjdeaabDoor
