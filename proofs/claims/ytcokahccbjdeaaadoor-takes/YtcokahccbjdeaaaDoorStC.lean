import Derived.Test.YtcokahccbjdeaaaDoorStB
import Derived.BigRegion
namespace Go.Proofs.YtcokahccbjdeaaaDoor
open Go.RowKit

theorem if_some {o : Option HeldS} {b : Bool} {H : HeldS} (h : o = if b = true then some H else none) : ∀ x, o = some x → H = x := by
  intro x hx
  rw [h] at hx
  split at hx
  · exact Option.some.inj hx
  · cases hx
theorem bytes7 (l : List UInt8) : ∀ i, ((l.getD i 0).toNat : Int) < 256 := fun i => by have := (l.getD i 0).toNat_lt; omega
set_option maxRecDepth 100000 in
set_option maxHeartbeats 2000000 in
theorem decode_page (w : World) (t : ByteArray) (ht : t.size = 256) :
    Calls Tryd.prog 96 #[.string t] w fun e w' => ∃ h : HeldS, e = .returned (.tuple #[h.v, .bool (decPage t.data.toList).isSome]) ∧ (∀ x, decPage t.data.toList = some x → h = x) ∧ Below w.heap.size w w' := by
  have hI : (t.size : Int) = 256 := by omega
  have b3 : (t[3].toNat : Int) < 256 := by have := t[3].toNat_lt; omega
  have b6 : (t[6].toNat : Int) < 256 := by have := t[6].toNat_lt; omega
  have g3 : (t.data.toList.getD 3 0) = t[3] := ba_getD t 3 (by omega)
  have g6 : (t.data.toList.getD 6 0) = t[6] := ba_getD t 6 (by omega)
  have g1 : (t.data.toList.getD 1 0) = t[1] := ba_getD t 1 (by omega)
  have g2 : (t.data.toList.getD 2 0) = t[2] := ba_getD t 2 (by omega)
  have g4 : (t.data.toList.getD 4 0) = t[4] := ba_getD t 4 (by omega)
  have g5 : (t.data.toList.getD 5 0) = t[5] := ba_getD t 5 (by omega)
  have hlen : t.data.toList.length = 256 := by rw [Array.length_toList]; exact ht
  by_cases hbig : 256 < 7 + t[3].toNat + t[6].toNat
  · have HD : Hid (decPage t.data.toList = none) := by unfold decPage Hid; rw [g3, g6, hlen, if_pos hbig]
    have hbI : (256 : Int) < 7 + t[3].toNat + t[6].toNat := by omega
    clear hbig g3 g6 g1 g2 g4 g5
    go_enter Tryd.func96, Tryd.ntmps96
    go_wp2
    refine bodyPost_ret (v := .tuple #[(HeldS.v ⟨⟨#[]⟩, 0, ⟨#[]⟩, 0, 0, ⟨#[]⟩⟩), .bool false]) (by simp [results, Tryd.results96, go_sem, HeldS.v]) rfl ⟨⟨⟨#[]⟩, 0, ⟨#[]⟩, 0, 0, ⟨#[]⟩⟩, (by rw [HD.out]; rfl), (fun x hx => by rw [HD.out] at hx; cases hx), (Below.refl _ _).alloc (Nat.le_refl _) _⟩
  · obtain ⟨H, hH⟩ : ∃ H, H = heldAt t.data.toList := ⟨_, rfl⟩
    have HD : Hid (decPage t.data.toList = if H.lawful then some H else none) := by unfold decPage Hid; rw [g3, g6, hlen, if_neg hbig, hH]
    have hbI : ¬ (256 : Int) < 7 + t[3].toNat + t[6].toNat := by omega
    have e1 : Hid (H.good = t.extract 7 (7 + t[3].toNat)) := by rw [Hid, hH, extract_mk, heldAt]; simp only [g3, Nat.add_sub_cancel_left]; rfl
    have e2 : Hid (H.floor = (256 : Int) * (t[1].toNat : Int) + (t[2].toNat : Int)) := by rw [Hid, hH, heldAt]; simp only [g1, g2]
    have e4 : Hid (H.tries = t[4].toNat) := by rw [Hid, hH, heldAt]; simp only [g4]
    have e5 : Hid (H.size = t[5].toNat) := by rw [Hid, hH, heldAt]; simp only [g5]
    clear hbig
    have b1 : (t[1].toNat : Int) < 256 := by have := t[1].toNat_lt; omega
    have b2 : (t[2].toNat : Int) < 256 := by have := t[2].toNat_lt; omega
    have b4 : (t[4].toNat : Int) < 256 := by have := t[4].toNat_lt; omega
    have b5 : (t[5].toNat : Int) < 256 := by have := t[5].toNat_lt; omega
    have hle : 7 + t[3].toNat ≤ 7 + t[3].toNat + t[6].toNat := by omega
    by_cases h5 : 0 < t[5].toNat
    · have e3 : Hid (H.trial = ⟨#[]⟩) := by rw [Hid, hH, heldAt]; simp only [g5, if_pos h5]; rfl
      have e6 : Hid (H.got = t.extract (7 + t[3].toNat) (7 + t[3].toNat + t[6].toNat)) := by rw [Hid, hH, extract_mk, heldAt]; simp only [g5, g3, g6, if_pos h5, Nat.add_sub_cancel_left]; rfl
      clear hH g3 g6 g1 g2 g4 g5
      have h5I : (0 : Int) < t[5].toNat := by omega
      go_enter Tryd.func96, Tryd.ntmps96
      go_wp2
      go_region
      all_goals go_wp2
      obtain ⟨y0, hy0⟩ : ∃ y, y = t.extract 7 (7 + t[3].toNat) := ⟨_, rfl⟩
      obtain ⟨y1, hy1⟩ : ∃ y, y = (256 : Int) * (t[1].toNat : Int) + (t[2].toNat : Int) := ⟨_, rfl⟩
      obtain ⟨y2, hy2⟩ : ∃ y, y = t.extract (7 + t[3].toNat) (7 + t[3].toNat + t[6].toNat) := ⟨_, rfl⟩
      obtain ⟨y3, hy3⟩ : ∃ y, y = (t[4].toNat : Int) := ⟨_, rfl⟩
      obtain ⟨y4, hy4⟩ : ∃ y, y = (t[5].toNat : Int) := ⟨_, rfl⟩
      have EH : H = ⟨y0, y1, ⟨#[]⟩, y3, y4, y2⟩ := by
        obtain ⟨c1, c2, c3, c4, c5, c6⟩ := H
        have k1 := e1.out; have k2 := e2.out; have k3 := e3.out; have k4 := e4.out; have k5 := e5.out; have k6 := e6.out
        simp only at k1 k2 k3 k4 k5 k6
        rw [k1, k2, k3, k4, k5, k6, hy0, hy1, hy2, hy3, hy4]
      have z0 : y0.size < 4611686018427387904 := by rw [hy0, ByteArray.size_extract]; omega
      have z2 : y2.size < 4611686018427387904 := by rw [hy2, ByteArray.size_extract]; omega
      have z9 : (ByteArray.mk #[]).size < 4611686018427387904 := by decide
      rw [← hy0, ← hy1, ← hy2, ← hy3, ← hy4]
      subst EH
      have HL := fun wx => lawful_any wx ⟨y0, y1, ⟨#[]⟩, y3, y4, y2⟩ z0 (by first | exact z9 | exact z2)
      have hZ := heap_alloc2_old w (.cells (HeldS.cs ⟨⟨#[]⟩, 0, ⟨#[]⟩, 0, 0, ⟨#[]⟩⟩) 72) (.cells (HeldS.cs ⟨y0, y1, ⟨#[]⟩, y3, y4, y2⟩) 72)
      have hN := heap_alloc2_new w (.cells (HeldS.cs ⟨⟨#[]⟩, 0, ⟨#[]⟩, 0, 0, ⟨#[]⟩⟩) 72) (.cells (HeldS.cs ⟨y0, y1, ⟨#[]⟩, y3, y4, y2⟩) 72)
      have hbz : Below w.heap.size w ((w.alloc (.cells (HeldS.cs ⟨⟨#[]⟩, 0, ⟨#[]⟩, 0, 0, ⟨#[]⟩⟩) 72)).alloc (.cells (HeldS.cs ⟨y0, y1, ⟨#[]⟩, y3, y4, y2⟩) 72)).drew := (((Below.refl _ _).alloc (Nat.le_refl _) _).alloc (by simp) _).drew
      clear e1 e2 e3 e4 e5 e6
      simp only [HeldS.v] at HL
      simp only [HeldS.cs] at hZ hN hbz
      have hZ' : ((w.alloc (.cells #[.string ⟨#[]⟩, .int .i64 0, .string ⟨#[]⟩, .int .i64 0, .int .i64 0, .string ⟨#[]⟩] 72)).alloc (.cells #[.string y0, .int .i64 y1, .string ⟨#[]⟩, .int .i64 y3, .int .i64 y4, .string y2] 72)).drew.heap[w.heap.size]? = some (.cells (HeldS.cs ⟨⟨#[]⟩, 0, ⟨#[]⟩, 0, 0, ⟨#[]⟩⟩) 72 (0, 0)) := hZ
      have hN' : ((w.alloc (.cells #[.string ⟨#[]⟩, .int .i64 0, .string ⟨#[]⟩, .int .i64 0, .int .i64 0, .string ⟨#[]⟩] 72)).alloc (.cells #[.string y0, .int .i64 y1, .string ⟨#[]⟩, .int .i64 y3, .int .i64 y4, .string y2] 72)).drew.heap[w.heap.size + 1]? = some (.cells (HeldS.cs ⟨y0, y1, ⟨#[]⟩, y3, y4, y2⟩) 72 (0, 0)) := hN
      clear hZ hN hy0 hy1 hy2 hy3 hy4
      generalize ((w.alloc (.cells #[.string ⟨#[]⟩, .int .i64 0, .string ⟨#[]⟩, .int .i64 0, .int .i64 0, .string ⟨#[]⟩] 72)).alloc (.cells #[.string y0, .int .i64 y1, .string ⟨#[]⟩, .int .i64 y3, .int .i64 y4, .string y2] 72)).drew = wz at *
      have P := held_cells (w := wz.drew) hN'
      simp only at P
      obtain ⟨p0, p1, p2, p3, p4, p5, pf⟩ := P
      go_region_with (go_at_call 98; refine (HL _).mono ?_; rintro en w2 ⟨rfl, hb2⟩; have hN2 := (hb2.block _ (Array.getElem?_eq_some_iff.1 hN').1).trans hN'; have hZ2 := (hb2.block _ (Array.getElem?_eq_some_iff.1 hZ').1).trans hZ'; obtain ⟨r0, r1, r2, r3, r4, r5, rf⟩ := held_cells hN2; obtain ⟨s0, s1, s2, s3, s4, s5, sf⟩ := held_cells hZ2)
      all_goals go_wp2
      all_goals refine bodyPost_ret (v := .tuple #[HeldS.v ⟨y0, y1, ⟨#[]⟩, y3, y4, y2⟩, .bool (HeldS.lawful ⟨y0, y1, ⟨#[]⟩, y3, y4, y2⟩)]) (by simp [results, Tryd.results96, go_sem, HeldS.v, s0, s1, s2, s3, s4, s5]) rfl ?_
      all_goals
        have hbT : Below w.heap.size w w2 := hbz.drew.trans (hb2.mono hbz.size)
        exact ⟨_, by rw [HD.out]; cases HeldS.lawful ⟨y0, y1, ⟨#[]⟩, y3, y4, y2⟩ <;> rfl, (if_some HD.out), (((((hbT.setCell (Nat.le_refl _) _).setCell (Nat.le_refl _) _).setCell (Nat.le_refl _) _).setCell (Nat.le_refl _) _).setCell (Nat.le_refl _) _).setCell (Nat.le_refl _) _⟩
    · have e6 : Hid (H.got = ⟨#[]⟩) := by rw [Hid, hH, heldAt]; simp only [g5, if_neg h5]; rfl
      have e3 : Hid (H.trial = t.extract (7 + t[3].toNat) (7 + t[3].toNat + t[6].toNat)) := by rw [Hid, hH, extract_mk, heldAt]; simp only [g5, g3, g6, if_neg h5, Nat.add_sub_cancel_left]; rfl
      clear hH g3 g6 g1 g2 g4 g5
      have h5I : ¬ (0 : Int) < t[5].toNat := by omega
      go_enter Tryd.func96, Tryd.ntmps96
      go_wp2
      go_region
      all_goals go_wp2
      obtain ⟨y0, hy0⟩ : ∃ y, y = t.extract 7 (7 + t[3].toNat) := ⟨_, rfl⟩
      obtain ⟨y1, hy1⟩ : ∃ y, y = (256 : Int) * (t[1].toNat : Int) + (t[2].toNat : Int) := ⟨_, rfl⟩
      obtain ⟨y2, hy2⟩ : ∃ y, y = t.extract (7 + t[3].toNat) (7 + t[3].toNat + t[6].toNat) := ⟨_, rfl⟩
      obtain ⟨y3, hy3⟩ : ∃ y, y = (t[4].toNat : Int) := ⟨_, rfl⟩
      obtain ⟨y4, hy4⟩ : ∃ y, y = (t[5].toNat : Int) := ⟨_, rfl⟩
      have EH : H = ⟨y0, y1, y2, y3, y4, ⟨#[]⟩⟩ := by
        obtain ⟨c1, c2, c3, c4, c5, c6⟩ := H
        have k1 := e1.out; have k2 := e2.out; have k3 := e3.out; have k4 := e4.out; have k5 := e5.out; have k6 := e6.out
        simp only at k1 k2 k3 k4 k5 k6
        rw [k1, k2, k3, k4, k5, k6, hy0, hy1, hy2, hy3, hy4]
      have z0 : y0.size < 4611686018427387904 := by rw [hy0, ByteArray.size_extract]; omega
      have z2 : y2.size < 4611686018427387904 := by rw [hy2, ByteArray.size_extract]; omega
      have z9 : (ByteArray.mk #[]).size < 4611686018427387904 := by decide
      rw [← hy0, ← hy1, ← hy2, ← hy3, ← hy4]
      subst EH
      have HL := fun wx => lawful_any wx ⟨y0, y1, y2, y3, y4, ⟨#[]⟩⟩ z0 (by first | exact z9 | exact z2)
      have hZ := heap_alloc2_old w (.cells (HeldS.cs ⟨⟨#[]⟩, 0, ⟨#[]⟩, 0, 0, ⟨#[]⟩⟩) 72) (.cells (HeldS.cs ⟨y0, y1, y2, y3, y4, ⟨#[]⟩⟩) 72)
      have hN := heap_alloc2_new w (.cells (HeldS.cs ⟨⟨#[]⟩, 0, ⟨#[]⟩, 0, 0, ⟨#[]⟩⟩) 72) (.cells (HeldS.cs ⟨y0, y1, y2, y3, y4, ⟨#[]⟩⟩) 72)
      have hbz : Below w.heap.size w ((w.alloc (.cells (HeldS.cs ⟨⟨#[]⟩, 0, ⟨#[]⟩, 0, 0, ⟨#[]⟩⟩) 72)).alloc (.cells (HeldS.cs ⟨y0, y1, y2, y3, y4, ⟨#[]⟩⟩) 72)).drew := (((Below.refl _ _).alloc (Nat.le_refl _) _).alloc (by simp) _).drew
      clear e1 e2 e3 e4 e5 e6
      simp only [HeldS.v] at HL
      simp only [HeldS.cs] at hZ hN hbz
      have hZ' : ((w.alloc (.cells #[.string ⟨#[]⟩, .int .i64 0, .string ⟨#[]⟩, .int .i64 0, .int .i64 0, .string ⟨#[]⟩] 72)).alloc (.cells #[.string y0, .int .i64 y1, .string y2, .int .i64 y3, .int .i64 y4, .string ⟨#[]⟩] 72)).drew.heap[w.heap.size]? = some (.cells (HeldS.cs ⟨⟨#[]⟩, 0, ⟨#[]⟩, 0, 0, ⟨#[]⟩⟩) 72 (0, 0)) := hZ
      have hN' : ((w.alloc (.cells #[.string ⟨#[]⟩, .int .i64 0, .string ⟨#[]⟩, .int .i64 0, .int .i64 0, .string ⟨#[]⟩] 72)).alloc (.cells #[.string y0, .int .i64 y1, .string y2, .int .i64 y3, .int .i64 y4, .string ⟨#[]⟩] 72)).drew.heap[w.heap.size + 1]? = some (.cells (HeldS.cs ⟨y0, y1, y2, y3, y4, ⟨#[]⟩⟩) 72 (0, 0)) := hN
      clear hZ hN hy0 hy1 hy2 hy3 hy4
      generalize ((w.alloc (.cells #[.string ⟨#[]⟩, .int .i64 0, .string ⟨#[]⟩, .int .i64 0, .int .i64 0, .string ⟨#[]⟩] 72)).alloc (.cells #[.string y0, .int .i64 y1, .string y2, .int .i64 y3, .int .i64 y4, .string ⟨#[]⟩] 72)).drew = wz at *
      have P := held_cells (w := wz.drew) hN'
      simp only at P
      obtain ⟨p0, p1, p2, p3, p4, p5, pf⟩ := P
      go_region_with (go_at_call 98; refine (HL _).mono ?_; rintro en w2 ⟨rfl, hb2⟩; have hN2 := (hb2.block _ (Array.getElem?_eq_some_iff.1 hN').1).trans hN'; have hZ2 := (hb2.block _ (Array.getElem?_eq_some_iff.1 hZ').1).trans hZ'; obtain ⟨r0, r1, r2, r3, r4, r5, rf⟩ := held_cells hN2; obtain ⟨s0, s1, s2, s3, s4, s5, sf⟩ := held_cells hZ2)
      all_goals go_wp2
      all_goals refine bodyPost_ret (v := .tuple #[HeldS.v ⟨y0, y1, y2, y3, y4, ⟨#[]⟩⟩, .bool (HeldS.lawful ⟨y0, y1, y2, y3, y4, ⟨#[]⟩⟩)]) (by simp [results, Tryd.results96, go_sem, HeldS.v, s0, s1, s2, s3, s4, s5]) rfl ?_
      all_goals
        have hbT : Below w.heap.size w w2 := hbz.drew.trans (hb2.mono hbz.size)
        exact ⟨_, by rw [HD.out]; cases HeldS.lawful ⟨y0, y1, y2, y3, y4, ⟨#[]⟩⟩ <;> rfl, (if_some HD.out), (((((hbT.setCell (Nat.le_refl _) _).setCell (Nat.le_refl _) _).setCell (Nat.le_refl _) _).setCell (Nat.le_refl _) _).setCell (Nat.le_refl _) _).setCell (Nat.le_refl _) _⟩
end Go.Proofs.YtcokahccbjdeaaaDoor
