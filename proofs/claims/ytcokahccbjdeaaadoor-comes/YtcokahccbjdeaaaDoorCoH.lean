import Derived.Test.YtcokahccbjdeaaaDoorCoG
namespace Go.Proofs.YtcokahccbjdeaaaDoor
open Go.RowKit

theorem sails_trial (w : World) (B N k : Nat) (run : Int) (gd : ByteArray) (f : Int) (im : ByteArray) (v t : Int) (h : Rd B N w k run (trialR gd f im t)) (hN : N ≤ 1000000) (hI : Image im v) (ht : 0 < t) :
    Calls Tryd.prog 12 #[.pointer (some ⟨k, 0, none⟩), .string im, .bool true] w fun e w' => e = .returned (.bool true) ∧ Rd B (N + 64) w' k 2 (trialR gd f im (t - 1)) ∧ FrS B w w' := by
  have hb := boot_trial gd f im t hI.ne ht
  have h0 := hI.ver; have h1 := hI.pos
  have := sails_any w B N k run _ im true h hN (by rw [hb]; rfl) (by rw [hb]; rfl) (by omega) hI.lt
  rw [hb] at this
  exact this
theorem sails_gone (w : World) (B N k : Nat) (run : Int) (gd : ByteArray) (f : Int) (im : ByteArray) (v : Int) (h : Rd B N w k run (trialR gd f im 0)) (hN : N ≤ 1000000) (hI : Image gd v) :
    Calls Tryd.prog 12 #[.pointer (some ⟨k, 0, none⟩), .string gd, .bool false] w fun e w' => e = .returned (.bool true) ∧ Rd B (N + 64) w' k 1 (bareR gd f) ∧ FrS B w w' := by
  have hb := boot_gone gd f im
  have h0 := hI.ver; have h1 := hI.pos
  have := sails_any w B N k run _ gd false h hN (by rw [hb]; rfl) (by rw [hb]; rfl) (by omega) hI.lt
  rw [hb] at this
  exact this
theorem sails_bare (w : World) (B N k : Nat) (run : Int) (gd : ByteArray) (f : Int) (v : Int) (h : Rd B N w k run (bareR gd f)) (hN : N ≤ 1000000) (hI : Image gd v) :
    Calls Tryd.prog 12 #[.pointer (some ⟨k, 0, none⟩), .string gd, .bool false] w fun e w' => e = .returned (.bool true) ∧ Rd B (N + 64) w' k 1 (bareR gd f) ∧ FrS B w w' := by
  have hb := boot_bare gd f
  have h0 := hI.ver; have h1 := hI.pos
  have := sails_any w B N k run _ gd false h hN (by rw [hb]; rfl) (by rw [hb]; rfl) (by omega) hI.lt
  rw [hb] at this
  exact this
set_option maxRecDepth 100000 in
set_option maxHeartbeats 1000000 in
theorem comes_law (w : World) (a : Option Addr) (len cap : Nat) (zs : List Int) (hA : IntsAt w a len cap zs) (hT : TurnsAt w) :
    Calls Tryd.prog 5 #[.slice a len cap] w fun e w' => e = .returned (.bool true) ∧ Below w.heap.size w w' := by
  have hpos : 1 ≤ w.heap.size := lt_of_cell hT.t0
  have HL := launched_any w w.heap.size hT (Nat.le_refl _) hpos
  have hlm := hA.lenm
  have hlmI : (len : Int) < 4611686018427387904 := by omega
  clear hlm
  go_enter Tryd.func5, Tryd.ntmps5
  go_wp2_with (go_at_call 7; refine HL.mono ?_; rintro en w1 ⟨k, b, g, q, c, t, m, rfl, S1, R1, hI1, o1, hm1, hBm, hb1⟩; have d2 := (ship_cells S1.s.hk).2.2.1; have dm : w1.cell? ⟨m, 0, none⟩ = some (.string t) := by (rw [cell_of_heap hm1]; rfl))
  go_loopw [4, 5, 6, 7, 8, 9, 10, 11, 12, 13, 14, 15] (fun gd i _ _ _ _ _ _ _ _ _ _ wr => ∃ (j : Nat) (gv : ByteArray) (v run : Int), j ≤ len ∧ i = .int .i64 j ∧ gd = .string gv ∧ Image gv v ∧ Rd w.heap.size 512 wr k run (bareR gv 3) ∧ Below w.heap.size w wr) (fun _ i _ _ _ _ _ _ _ _ _ _ _ => len - (intOf i).toNat)
  case atStart => exact ⟨0, t, 3, 0, by omega, rfl, rfl, hI1, ⟨b, g, q, c, _, S1, R1, rfl, by omega⟩, hb1⟩
  case round =>
    obtain ⟨j, gv, v, run, hj, rfl, rfl, hIg, hRd, hbr⟩ := hrel
    by_cases hlt : j < len
    · have hltI : (j : Int) < len := by omega
      obtain ⟨bb, oo, rfl, hcell0, hbb⟩ := hA.cells j hlt
      have hzb := hA.wf (zs.getD j 0) (by
        have hjl : j < zs.length := Nat.lt_of_lt_of_le hlt hA.len1
        rw [List.getD_eq_getElem?_getD, List.getElem?_eq_getElem hjl]
        exact List.getElem_mem hjl)
      generalize zs.getD j 0 = z at *
      obtain ⟨z0, z1⟩ := hzb
      have hC : Hid (∀ wx : World, Below w.heap.size w wx → wx.cell? ⟨bb, oo + j, none⟩ = some (.int .i64 z)) := fun wx h => (h.cell (p := ⟨bb, oo + j, none⟩) hbb).trans hcell0
      have hcell := hC.out wr hbr
      clear d2 dm HL hcell0 S1 R1 hI1 o1 hm1 hBm hb1 hT hpos hbb
      have hsz := hbr.size
      go_wp2_with fail
      refine (small_any _ z z0 z1).mono ?_
      rintro en w2 ⟨im, vv, rfl, hIm, v1, v7, hb2⟩
      have hver := hIm.ver
      have HLD := fun wx => tload_any wx im hIm.lt
      rw [if_neg (by omega), (loaded_ver (by omega : 0 ≤ verB im)).1, hver] at HLD
      go_wp2_with fail
      refine (HLD _).mono ?_
      rintro en w3 ⟨rfl, hb3⟩
      have hb4 : ∀ x, Below wr.heap.size wr (w3.alloc x) := fun x => by
        have h1 := hb2.trans (hb3.mono hb2.size)
        exact h1.alloc h1.size x
      by_cases hv3 : vv < 3
      · go_wp2
        go_roundw
        case rel =>
          obtain ⟨hR4, F4⟩ := hRd.below (hb4 (.cells #[.int .i64 vv, .int .i64 (loadedB im).2.1, .string (loadedB im).2.2] 36))
          exact ⟨j + 1, gv, v, run, by omega, by go_num, rfl, hIg, hR4, hbr.trans F4.bel⟩
        case measure => simp [intOf]; omega
      · obtain ⟨hR4, F4⟩ := hRd.below (hb4 (.cells #[.int .i64 vv, .int .i64 (loadedB im).2.1, .string (loadedB im).2.2] 36))
        have hbz := hbr.trans F4.bel
        clear hRd hlmI hver HLD hb2 hb3 hj hsz hb4 v1 v7
        go_upto_region 13 with fail
        generalize w3.alloc (.cells #[.int .i64 vv, .int .i64 (loadedB im).2.1, .string (loadedB im).2.2] 36) = wz at *
        have hcz := hC.out wz hbz
        clear hcell
        obtain ⟨hR5, F5⟩ := hR4.below (w' := wz.drew) (Below.refl _ _).drew
        have hT0 : wz.drew.cell? ⟨bb, oo + j, none⟩ = some (.int .i64 z) := hcz
        have HPI := pick_any wz.drew z 8 z0 z1 (by omega) (by omega)
        have HCO := fun (n : Int) (ag : Bool) (h1 : 1 ≤ n) (h2 : n ≤ 8) => comes_any wz.drew w.heap.size 512 k run gv 3 im vv n ag hR5 (by omega) hIm (by have := hIm.ver; omega) (by omega) h1 h2
        go_region_held3 (fun w' => w'.cell? ⟨bb, oo + j, none⟩ = some (.int .i64 z)) ((first | with_reducible exact hT0 | with_reducible exact hT6))
          (first
            | (go_at_call 11; refine HPI.mono ?_; rintro en w5 ⟨rp, rfl, rp0, rp8, hw5⟩; have hw6 := hw5.symm; clear hw5; subst hw6; have hwr : IntKind.i64.wrap (1 + rp) = 1 + rp := by (rw [IntKind.wrap_i64]; omega))
            | (go_at_call 10; refine (HCO _ _ (by omega) (by omega)).mono ?_; rintro en w6 ⟨rfl, ⟨run6, hR6⟩, F6⟩; have hT6 := hC.out w6 (hbz.trans (F5.bel.trans F6.bel))))
        clear hT0 HPI HCO
        have HS1 := sails_trial w6 w.heap.size 20000 k run6 gv 3 im vv 3 hR6 (by omega) hIm (by omega)
        have hb6 := hbz.trans (F5.bel.trans F6.bel)
        clear hR6 hR5 hR4 hcz
        by_cases hz3 : z.tmod 3 = 0
        · have hzb : (z.tmod 3 == 0) = true := by simp [hz3]
          go_wp2_with (go_at_call 12; refine HS1.mono ?_; rintro en w7 ⟨rfl, hR7, F7⟩; have hc7 := hC.out w7 (hb6.trans F7.bel); obtain ⟨b7, g7, q7, c7, L7, S7, R7, m7, o7⟩ := hR7; have d7 := look_ship S7.s.hk)
          refine (rd_confirm w7 w.heap.size _ k b7 g7 q7 c7 L7 gv im 3 (3 - 1) hIm.ne S7 R7 o7 (by omega)).mono ?_
          rintro en w8 ⟨rfl, ⟨c8, S8, R8, o8⟩, F8⟩
          have HS2 := sails_bare w8 w.heap.size _ k 1 im 3 vv ⟨b7, g7, q7, c8, L7, S8, R8, rfl, o8⟩ (by omega) hIm
          clear hc7 d7 S7 R7 o7 S8 R8 o8 HS1
          go_wp2_with fail
          refine HS2.mono ?_
          rintro en w9 ⟨rfl, hR9, F9⟩
          have HR := reopened_rd w9 w.heap.size _ k 1 _ hR9
          clear HS2 hR9
          go_wp2_with fail
          refine HR.mono ?_
          rintro en w10 ⟨rfl, hR10, F10⟩
          have HS3 := sails_bare w10 w.heap.size _ k 0 im 3 vv hR10 (by omega) hIm
          clear HR hR10
          have hlmI : (len : Int) < 4611686018427387904 := by have := hA.lenm; omega
          go_wp2_with (go_at_call 12; refine HS3.mono ?_; rintro en w11 ⟨rfl, hR11, F11⟩)
          go_roundw
          case rel => exact ⟨j + 1, im, vv, 1, by omega, by go_num, rfl, hIm, hR11.up (by omega), hb6.trans (F7.bel.trans (F8.bel.trans (F9.bel.trans (F10.bel.trans F11.bel))))⟩
          case measure => simp [intOf]; omega
        · have hzb : (z.tmod 3 == 0) = false := by simp [hz3]
          go_wp2_with fail
          refine HS1.mono ?_
          rintro en w7 ⟨rfl, hR7, F7⟩
          have hc7 := hC.out w7 (hb6.trans F7.bel)
          go_wp2_with fail
          have HS2 := sails_trial w7 w.heap.size _ k 2 gv 3 im vv (3 - 1) hR7 (by omega) hIm (by omega)
          clear hc7 HS1 hR7
          refine HS2.mono ?_
          rintro en w8 ⟨rfl, hR8, F8⟩
          have HR := reopened_rd w8 w.heap.size _ k 2 _ hR8
          clear HS2 hR8
          go_wp2_with fail
          refine HR.mono ?_
          rintro en w9 ⟨rfl, hR9, F9⟩
          have HS3 := sails_trial w9 w.heap.size _ k 0 gv 3 im vv (3 - 1 - 1) hR9 (by omega) hIm (by omega)
          clear HR hR9
          go_wp2_with fail
          refine HS3.mono ?_
          rintro en w10 ⟨rfl, hR10, F10⟩
          have HS4 := sails_gone w10 w.heap.size _ k 2 gv 3 im v hR10 (by omega) hIg
          clear HS3 hR10
          go_wp2_with fail
          refine HS4.mono ?_
          rintro en w11 ⟨rfl, hR11, F11⟩
          have HR2 := reopened_rd w11 w.heap.size _ k 1 _ hR11
          clear HS4 hR11
          go_wp2_with fail
          refine HR2.mono ?_
          rintro en w12 ⟨rfl, hR12, F12⟩
          have HS5 := sails_bare w12 w.heap.size _ k 0 gv 3 v hR12 (by omega) hIg
          clear HR2 hR12
          have hlmI : (len : Int) < 4611686018427387904 := by have := hA.lenm; omega
          go_wp2_with (go_at_call 12; refine HS5.mono ?_; rintro en w13 ⟨rfl, hR13, F13⟩)
          go_roundw
          case rel => exact ⟨j + 1, gv, v, 1, by omega, by go_num, rfl, hIg, hR13.up (by omega), hb6.trans (F7.bel.trans (F8.bel.trans (F9.bel.trans (F10.bel.trans (F11.bel.trans (F12.bel.trans F13.bel))))))⟩
          case measure => simp [intOf]; omega
    · have hltI : ¬ (j : Int) < len := by omega
      have HS := sails_bare wr w.heap.size 512 k run gv 3 v hRd (by omega) hIg
      go_wp2_with (go_at_call 12; refine HS.mono ?_; rintro en w5 ⟨rfl, hR5, F5⟩)
      go_ret
      exact ⟨rfl, hbr.trans F5.bel⟩
end Go.Proofs.YtcokahccbjdeaaaDoor
