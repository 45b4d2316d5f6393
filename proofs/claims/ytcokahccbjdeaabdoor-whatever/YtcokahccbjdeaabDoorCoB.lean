import Derived.Test.YtcokahccbjdeaabDoorCoA
namespace Go.Proofs.YtcokahccbjdeaabDoor
open Go.RowKit

theorem made_in {P : List Seg} {m : Mem} {v e : Int} (hf : ∀ s ∈ P, s.fits = true) (hm : layAll P = some m) (hs : sizes P ≤ 62) (hl : P.length ≤ 6) (hv0 : 0 ≤ v) (hv1 : v ≤ 65535) {s : Seg} (hsP : s ∈ P) (he : s.addr ≤ e) (he2 : e < s.addr + s.size) : Made v e m := by
  have hw := layAll_wf hm
  obtain ⟨f1, f2, f3, f4⟩ := (Seg.fits_iff _).1 (hf s hsP)
  have hc := runs_count hf hm
  refine ⟨hw, layAll_clean hm, hv0, hv1, by omega, by omega, ?_, ?_, by omega⟩
  · have h1 := coverN_lay hm e.toNat
    have h3 : 0 < coverN P (e.toNat : Int) := by
      unfold coverN
      apply List.length_pos_of_mem (a := s)
      rw [List.mem_filter]
      refine ⟨hsP, ?_⟩
      unfold Seg.covers
      simp only [Bool.and_eq_true, decide_eq_true_eq]
      omega
    cases h4 : m.c e.toNat
    · rw [h4, if_neg (by simp)] at h1; omega
    · rfl
  · rw [textOf_length]
    have h1 := flat_length (runsOf m) (runs_fit hw)
    rw [sizes_runs hf hm] at h1
    omega
/-- An image, as Pack makes it. -/
structure Image (t : ByteArray) (v : Int) : Prop where
  ver : verB t = v
  pos : 0 ≤ v
  size : t.size ≤ 120
  ne : ¬ t.size = 0
theorem image_of_made {v e : Int} {m : Mem} (h : Made v e m) : Image (mk (textOf v e (runsOf m))) v := by
  have hu := h.unpack
  have hv : verB (mk (textOf v e (runsOf m))) = v := by unfold verB verM; rw [mk_data, hu]
  refine ⟨hv, h.v0, by rw [mk_size]; exact h.len, ?_⟩
  have := (unpack_ver hu).2.2.2
  rw [mk_size]
  intro e0
  exact this (List.length_eq_zero_iff.1 e0)
theorem Image.lt {t : ByteArray} {v : Int} (h : Image t v) : t.size < 4611686018427387904 := by have := h.size; omega
theorem newChip_load : loadM newChip.cells = none := by
  have hm : markedM newChip.cells = false := by
    unfold markedM
    have : newChip.cells.getD 512 0 = 255 := by
      show (List.replicate 1024 (255 : UInt8)).getD 512 0 = 255
      rw [List.getD_eq_getElem?_getD, List.getElem?_replicate, if_pos (by omega)]; rfl
    rw [this]; rfl
  unfold loadM; rw [hm]; rfl
theorem newChip_rel : Rel newChip ⟨false, noHeld⟩ := ⟨newChiphip_live, fun _ => newChip_load, fun h => by cases h⟩
def firstSeg : Seg := ⟨0, 20, ⟨#[116, 104, 101, 32, 102, 105, 114, 115, 116, 32, 111, 110, 101]⟩⟩
theorem first_made : ∃ m, layAll [firstSeg] = some m ∧ Made 3 7 m := by
  have hf : ∀ s ∈ [firstSeg], s.fits = true := by
    intro s hs
    rw [List.mem_singleton] at hs
    subst hs
    decide
  obtain ⟨m, hm⟩ := lay_order [firstSeg] hf (List.pairwise_singleton _ _) 1 (by simp)
  exact ⟨m, hm, made_in hf hm (by decide) (by simp) (by omega) (by omega) (List.mem_singleton.2 rfl) (by decide) (by decide)⟩
def bareM (t : ByteArray) (f : Int) : HeldS := ⟨t, f, tx [], 0, 0, tx []⟩
set_option maxRecDepth 100000 in
set_option maxHeartbeats 100000 in
theorem made_any (w : World) (hT : TurnsAt w) :
    Calls Tryd.prog 15 #[] w fun e w' => ∃ b g t c, e = .returned (.tuple #[.pointer (some ⟨b, 0, none⟩), .string t]) ∧ Dv w' b g c ∧ Rel c ⟨true, bareM t 3⟩ ∧ Image t 3 ∧ c.ops ≤ 64 ∧ w.heap.size ≤ b ∧ w.heap.size ≤ g ∧ Below w.heap.size w w' := by
  obtain ⟨m, hm, hM⟩ := first_made
  have hI := image_of_made hM
  obtain ⟨t, ht⟩ : ∃ t, t = mk (textOf 3 7 (runsOf m)) := ⟨_, rfl⟩
  rw [← ht] at hI
  have hf : ∀ s ∈ [firstSeg], s.fits = true := by
    intro s hs
    rw [List.mem_singleton] at hs
    subst hs
    decide
  have HP : ∀ wx : World, Calls Tryd.prog 40 #[.int .i64 3, .int .i64 7, .slice (some ⟨wx.heap.size, 0, none⟩) 1 1] (wx.alloc (.cells #[.int .i64 0, .int .i64 20, .string ⟨#[116, 104, 101, 32, 102, 105, 114, 115, 116, 32, 111, 110, 101]⟩] 77)) fun en w' => en = .returned (.tuple #[.string t, .int .i64 0]) ∧ Below wx.heap.size wx w' := by
    intro wx
    have hh := heap_alloc_new wx (.cells #[.int .i64 0, .int .i64 20, .string ⟨#[116, 104, 101, 32, 102, 105, 114, 115, 116, 32, 111, 110, 101]⟩] 77)
    have hS : SegsIn (wx.alloc (.cells #[.int .i64 0, .int .i64 20, .string ⟨#[116, 104, 101, 32, 102, 105, 114, 115, 116, 32, 111, 110, 101]⟩] 77)) (some ⟨wx.heap.size, 0, none⟩) [firstSeg] := by
      refine ⟨⟨wx.heap.size, 0, fun _ => rfl, ?_, fun _ => (Array.getElem?_eq_some_iff.1 hh).1⟩⟩
      intro i hi
      have : i = 0 := by simp at hi; omega
      subst this
      refine ⟨?_, ?_, ?_⟩ <;> (rw [cell_of_heap hh]; rfl)
    rw [ht]
    refine (pack_in _ 3 7 _ 1 [firstSeg] m hS hf hm (by simp) (by simp) hM).mono ?_
    rintro en w' ⟨rfl, hb⟩
    exact ⟨rfl, ((Below.refl _ _).alloc (Nat.le_refl _) _).trans (hb.mono (by simp))⟩
  have hF := newChip_rel.format t
  have hv : ¬ verB t < 0 := by have := hI.ver; omega
  have HFe : formatM newChip t = ((formatM newChip t).1, 0) := by
    have : (formatM newChip t).2 = 0 := by
      rw [hF.err]; unfold RefS.format; simp [hv]
    rw [← this]
  have hRr : RefS.format ⟨false, noHeld⟩ t = (⟨true, bareM t 3⟩, 0) := by
    unfold RefS.format; simp only [Bool.false_eq_true, if_false, if_neg hv]; rw [hI.ver]; rfl
  have hR : Rel (formatM newChip t).1 ⟨true, bareM t 3⟩ := by have := hF.rel; rw [hRr] at this; exact this
  obtain ⟨n, hn, hops⟩ := hF.ops
  have h0 : newChip.ops = 0 := rfl
  have HN := new_any w
  have hpos : 0 < w.heap.size := lt_of_cell hT.t0
  have HFM := fun wx (hd : Dv wx (w.heap.size + 1) w.heap.size newChip) => format_any wx (w.heap.size + 1) w.heap.size newChip t hI.lt (by omega) hd
  rw [HFe] at HFM
  generalize (formatM newChip t).1 = c1 at *
  have hne := ne_empty hI.ne
  clear hF HFe hRr hv ht hm hM hf
  go_enter Tryd.func15, Tryd.ntmps15
  go_wp2_with (first
    | (go_at_call 8; refine HN.mono ?_; rintro en w1 ⟨rfl, hc1, hb1, hs1⟩; clear hs1; have hs1 := hb1.size; have hT1 := hT.below hb1)
    | (go_at_call 40; refine (HP w1).mono ?_; rintro en w2 ⟨rfl, hb2⟩; have hV2 : Dv w2 (w.heap.size + 1) w.heap.size newChip := ⟨hc1.below hb2, hT1.below hb2, by omega, by omega⟩; have HO := open_none w2 _ _ newChip hV2 newChip_load)
    | (go_at_call 11; refine HO.mono ?_; rintro en w3 ⟨rfl, hb3⟩; have hV3 := hV2.below hb3)
    | (go_at_call 12; refine (HFM _ hV3).mono ?_; rintro en w4 ⟨rfl, hc4, ho4⟩))
  refine bodyPost_ret (results_tmp2 rfl _ _ _) rfl ⟨w.heap.size + 1, w.heap.size, t, c1, rfl, hV3.only hc4 ho4, hR, hI, by omega, by omega, by omega, ?_⟩
  have k3 := (hb1.trans (hb2.mono hb1.size)).trans (hb3.mono (Nat.le_trans hb1.size hb2.size))
  exact k3.trans (ho4.below k3.size (fun x hx => by omega))
set_option maxRecDepth 100000 in
set_option maxHeartbeats 1000000 in
theorem small_any (w : World) (c : Int) (h0 : -9223372036854775808 ≤ c) (h1 : c < 9223372036854775808) :
    Calls Tryd.prog 42 #[.int .i64 c] w fun e w' => ∃ t v, e = .returned (.tuple #[.string t, .bool true]) ∧ Image t v ∧ 1 ≤ v ∧ v ≤ 7 ∧ Below w.heap.size w w' := by
  have HP7 : ∀ wx : World, Calls Tryd.prog 32 #[.int .i64 c, .int .i64 7] wx fun e w' => ∃ r : Int, e = .returned (.int .i64 r) ∧ 0 ≤ r ∧ r < 7 ∧ w' = wx := fun wx => pick_any wx c 7 h0 h1 (by omega) (by omega)
  have HPK : ∀ wx : World, Calls Tryd.prog 32 #[.int .i64 c, .int .i64 1000] wx fun e w' => ∃ r : Int, e = .returned (.int .i64 r) ∧ 0 ≤ r ∧ r < 1000 ∧ w' = wx := fun wx => pick_any wx c 1000 h0 h1 (by omega) (by omega)
  have HP60 : ∀ wx : World, Calls Tryd.prog 32 #[.int .i64 c, .int .i64 60] wx fun e w' => ∃ r : Int, e = .returned (.int .i64 r) ∧ 0 ≤ r ∧ r < 60 ∧ w' = wx := fun wx => pick_any wx c 60 h0 h1 (by omega) (by omega)
  have HP9 : ∀ wx : World, Calls Tryd.prog 32 #[.int .i64 c, .int .i64 9] wx fun e w' => ∃ r : Int, e = .returned (.int .i64 r) ∧ 0 ≤ r ∧ r < 9 ∧ w' = wx := fun wx => pick_any wx c 9 h0 h1 (by omega) (by omega)
  have HP29 : ∀ wx : World, Calls Tryd.prog 32 #[.int .i64 c, .int .i64 29] wx fun e w' => ∃ r : Int, e = .returned (.int .i64 r) ∧ 0 ≤ r ∧ r < 29 ∧ w' = wx := fun wx => pick_any wx c 29 h0 h1 (by omega) (by omega)
  go_enter Tryd.func42, Tryd.ntmps42
  go_wp2_with fail
  refine (HP7 _).mono ?_
  rintro en w1 ⟨r7, rfl, a7, b7, hw⟩
  subst hw
  go_wp2_with fail
  refine (HPK _).mono ?_
  rintro en w2 ⟨k, rfl, ak, bk, hw⟩
  subst hw
  obtain ⟨d, hd3, hcv⟩ : ∃ d : ByteArray, d.size = 3 ∧ (convert 57 9 (.slice (some ⟨w2.heap.size, 0, none⟩) 3 3)).run Tryd.prog (w2.alloc (.cells #[.int .u8 (1 + k / 100), .int .u8 (1 + k / 10 % 10), .int .u8 (1 + k % 10)] 5)) = .ok (.string d) (w2.alloc (.cells #[.int .u8 (1 + k / 100), .int .u8 (1 + k / 10 % 10), .int .u8 (1 + k % 10)] 5)) := by
    refine ⟨mk [byteOf (1 + k / 100), byteOf (1 + k / 10 % 10), byteOf (1 + k % 10)], by rw [mk_size]; rfl, ?_⟩
    refine conv_cells _ _ 3 _ [byteOf (1 + k / 100), byteOf (1 + k / 10 % 10), byteOf (1 + k % 10)] _ (heap_alloc_new w2 _) ?_
    rw [byteOf_fit (1 + k / 100) (by omega) (by omega), byteOf_fit (1 + k / 10 % 10) (by omega) (by omega), byteOf_fit (1 + k % 10) (by omega) (by omega)]
    rfl
  have hd4 : d.size < 4611686018427387904 := by omega
  have HBY := fun wx (N : Int) (h : 0 ≤ N) (h' : N ≤ 1000) => bytes_at wx d 0 N hd4 (by omega) (by omega) h h'
  go_wp2_with fail
  have hbA := (Below.refl w2.heap.size w2).alloc (Nat.le_refl _) (.cells #[.int .u8 (1 + k / 100), .int .u8 (1 + k / 10 % 10), .int .u8 (1 + k % 10)] 5)
  generalize w2.alloc (.cells #[.int .u8 (1 + k / 100), .int .u8 (1 + k / 10 % 10), .int .u8 (1 + k % 10)] 5) = w3 at *
  clear hcv
  refine (HP60 _).mono ?_
  rintro en w4 ⟨r60, rfl, a60, b60, hw⟩
  subst hw
  go_wp2_with fail
  refine (HP9 _).mono ?_
  rintro en w5 ⟨r9, rfl, a9, b9, hw⟩
  subst hw
  go_wp2_with fail
  refine (HP29 _).mono ?_
  rintro en w6 ⟨r29, rfl, a29, b29, hw⟩
  subst hw
  go_wp2_with fail
  refine (HBY _ r29 a29 (by omega)).mono ?_
  rintro en w7 ⟨d2, rfl, hd2, hb7⟩
  have hbB := hbA.trans (hb7.mono hbA.size)
  obtain ⟨P, hP⟩ : ∃ P : List Seg, P = [⟨r60, 4 + r9, d⟩, ⟨100, 28, d2⟩] := ⟨_, rfl⟩
  have hf : ∀ s ∈ P, s.fits = true := by
    intro s hs
    rw [hP] at hs
    simp only [List.mem_cons, List.not_mem_nil, or_false] at hs
    rcases hs with rfl | rfl <;> (rw [Seg.fits_iff]; simp only; omega)
  have hlen : P.length = 2 := by rw [hP]; rfl
  obtain ⟨m, hm⟩ := lay_order P hf (by rw [hP]; simp; omega) 2 (by omega)
  rw [List.take_of_length_le (by omega)] at hm
  have hsz : sizes P ≤ 62 := by rw [hP]; simp [sizes]; omega
  have hM : Made (1 + r7) r60 m := made_of hf hm hsz (by omega) (by omega) (by omega) (s := ⟨r60, 4 + r9, d⟩) (by rw [hP]; simp) rfl
  have hI := image_of_made hM
  obtain ⟨t, ht⟩ : ∃ t, t = mk (textOf (1 + r7) r60 (runsOf m)) := ⟨_, rfl⟩
  rw [← ht] at hI
  have HPA : ∀ wx : World, Calls Tryd.prog 40 #[.int .i64 (1 + r7), .int .i64 r60, .slice (some ⟨wx.heap.size, 0, none⟩) 2 2] (wx.alloc (.cells #[.int .i64 r60, .int .i64 (4 + r9), .string d, .int .i64 100, .int .i64 28, .string d2] 77)) fun en w' => en = .returned (.tuple #[.string t, .int .i64 0]) ∧ Below wx.heap.size wx w' := by
    intro wx
    have hh := heap_alloc_new wx (.cells #[.int .i64 r60, .int .i64 (4 + r9), .string d, .int .i64 100, .int .i64 28, .string d2] 77)
    have hS : SegsIn (wx.alloc (.cells #[.int .i64 r60, .int .i64 (4 + r9), .string d, .int .i64 100, .int .i64 28, .string d2] 77)) (some ⟨wx.heap.size, 0, none⟩) P := by
      refine ⟨⟨wx.heap.size, 0, fun _ => rfl, ?_, fun _ => (Array.getElem?_eq_some_iff.1 hh).1⟩⟩
      subst hP
      intro i hi
      match i, hi with
      | 0, _ => refine ⟨?_, ?_, ?_⟩ <;> (rw [cell_of_heap hh]; rfl)
      | 1, _ => refine ⟨?_, ?_, ?_⟩ <;> (rw [cell_of_heap hh]; rfl)
    have hq := pack_in _ (1 + r7) r60 _ 2 P m hS hf hm (by omega) (by omega) hM
    rw [hlen] at hq
    rw [ht]
    refine hq.mono ?_
    rintro en w' ⟨rfl, hb⟩
    exact ⟨rfl, ((Below.refl _ _).alloc (Nat.le_refl _) _).trans (hb.mono (by simp))⟩
  have hne := ne_empty hI.ne
  clear hf hlen hm hsz hM ht hP
  go_wp2_with (go_at_call 40; refine (HPA w7).mono ?_; rintro en w8 ⟨rfl, hb8⟩)
  refine bodyPost_ret (results_tmp2 rfl _ _ _) rfl ⟨t, 1 + r7, rfl, hI, by omega, by omega, hbB.trans (hb8.mono hbB.size)⟩
end Go.Proofs.YtcokahccbjdeaabDoor
