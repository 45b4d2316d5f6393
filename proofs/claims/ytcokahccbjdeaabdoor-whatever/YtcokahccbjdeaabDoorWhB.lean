import Derived.Test.YtcokahccbjdeaabDoorWhA
namespace Go.Proofs.YtcokahccbjdeaabDoor
open Go.RowKit

set_option maxRecDepth 100000 in
set_option maxHeartbeats 2000000 in
theorem whatever_law (w : World) (on im : ByteArray) (a : Option Addr) (len cap : Nat) (zs : List Int) (hA : IntsAt w a len cap zs) (hlen : len ≤ 17592186044416) (hT : TurnsAt w) (hon : on.size < 4611686018427387904) (him : im.size < 4611686018427387904) :
    Calls Tryd.prog 4 #[.string on, .string im, .slice a len cap] w fun e w' => e = .returned (.bool true) ∧ Below w.heap.size w w' := by
  have hpos : 1 ≤ w.heap.size := lt_of_cell hT.t0
  have HL := launched_any w w.heap.size hT (Nat.le_refl _) hpos
  have hlmI : (len : Int) ≤ 17592186044416 := by omega
  go_enter Tryd.func4, Tryd.ntmps4
  go_wp2_with fail
  refine HL.mono ?_
  rintro en w1 ⟨k, b, g, q0, c0, t, m, rfl, S1, R1, hI1, o1, hm1, hBm, hb1⟩
  clear R1 hI1 o1 hm1 hBm S1 HL
  have hT1 : TurnsAt w1 := hT.below (hb1.mono (Nat.le_refl _))
  have HN := new_any w1
  go_wp2_with fail
  refine HN.mono ?_
  rintro en w2 ⟨rfl, hc2, hb2, hs2⟩
  clear hs2
  have hs2 := hb2.size
  have HLA := laid_any w2 _ _ newChip on hon (by show (0 : Int) < _; omega) hc2
  obtain ⟨lv, lops⟩ := laid_live on
  generalize laidM newChip on = c at *
  have hT2 : TurnsAt w2 := hT1.below hb2
  go_wp2_with fail
  refine HLA.mono ?_
  rintro en w3 ⟨rfl, hc3, ho3⟩
  have hs1 := hb1.size
  have V3 : Dv w3 (w1.heap.size + 1) w1.heap.size c := ⟨hc3, hT2.only ho3 (by omega), by omega, by omega⟩
  have hb3 : Below w.heap.size w w3 := hb1.trans ((hb2.trans (ho3.below hb2.size (by omega))).mono hs1)
  have HO3 := fun wx (hb : Below w3.heap.size w3 wx) => ops_any wx _ _ c (V3.below hb).chip
  have hp3 := V3.chip.ops0
  clear HN HLA hc2 hc3 ho3 hb2 hT1 hT2
  generalize hcp3 : c.ops = p3 at *
  go_wp2_with fail
  refine (HO3 _ (Below.refl _ _)).mono ?_
  rintro en wy ⟨rfl, hwy⟩
  have hwy2 := hwy.symm
  clear hwy
  subst hwy2
  cases hl : loadM c.cells with
  | some x =>
    have HOP := open_some w3 _ _ c x V3 hl
    have R3 := rel_some lv hl
    go_wp2_with fail
    refine HOP.mono ?_
    rintro en w4 ⟨q, rfl, hq1, hq2, hb4⟩
    have hqB : w.heap.size ≤ q := Nat.le_trans hb3.size hq1
    go_wp2_with (go_at_call 10; refine (HO3 _ hb4).mono ?_; rintro en w10 ⟨rfl, rfl⟩)
    go_loopw [9, 12, 13] (fun _ i _ wr => ∃ (j : Nat) (c' : ChipS) (run' : Int) (x' : HeldS), j ≤ len ∧ i = .int .i64 j ∧ Dv wr (w1.heap.size + 1) w1.heap.size c' ∧ wr.heap[q]? = some (.cells (devC (w1.heap.size + 1) run') 66 (0, 0)) ∧ Rel c' ⟨true, x'⟩ ∧ c'.ops ≤ 256 + 64 * (j : Int) ∧ Below w.heap.size w wr) (fun _ i _ _ => len - (intOf i).toNat)
    case atStart => exact ⟨0, c, 0, x, by omega, rfl, V3.below hb4, hq2, R3, by omega, hb3.trans (hb4.mono hb3.size)⟩
    case round =>
      obtain ⟨j, c', run', x', hj, rfl, V', hq', R', ho', hbr⟩ := hrel
      by_cases hlt : j < len
      · have hltI : (j : Int) < len := by omega
        obtain ⟨bb, oo, rfl, hcell0, hbb⟩ := hA.cells j hlt
        have hzb := hA.wf (zs.getD j 0) (by
          have hjl : j < zs.length := Nat.lt_of_lt_of_le hlt hA.len1
          rw [List.getD_eq_getElem?_getD, List.getElem?_eq_getElem hjl]
          exact List.getElem_mem hjl)
        generalize zs.getD j 0 = z at *
        obtain ⟨z0, z1⟩ := hzb
        have hcell : wr.cell? ⟨bb, oo + j, none⟩ = some (.int .i64 z) := (hbr.cell (p := ⟨bb, oo + j, none⟩) hbb).trans hcell0
        have HO := ops_any wr _ _ c' V'.chip
        have HC := callsK_any wr _ _ q c' run' z x' V' hq' R' (by omega) z0 z1
        have hp0 := V'.chip.ops0
        have hT' := V'.turns
        generalize hcp : c'.ops = p at *
        go_wp2_with fail
        refine HO.mono ?_
        rintro en wy ⟨rfl, hwy⟩
        have hwy2 := hwy.symm
        clear hwy
        subst hwy2
        go_wp2_with fail
        refine HC.mono ?_
        rintro en w8 ⟨rfl, ⟨c8, run8, x8, hL8, R8, n8, hn8, ho8⟩⟩
        have V8 : Dv w8 (w1.heap.size + 1) w1.heap.size c8 := ⟨hL8.chip, hT'.only hL8.only (by omega), by omega, by omega⟩
        have HO8 := fun wx (hb : Below w8.heap.size w8 wx) => ops_any wx _ _ c8 (V8.below hb).chip
        have hz8 : c8.ops = p + n8 := by rw [ho8, hcp]
        rw [hz8] at HO8
        have HS8 := state_any w8 q _ _ c8 run8 x8 V8 hL8.dev (R8.yes rfl).1
        have hn8I : (n8 : Int) ≤ 64 := by omega
        have hb8 : Below w.heap.size w w8 := hbr.trans (hL8.only.below hbr.size (by omega))
        have hfit : p + (n8 : Int) - p = n8 := by omega
        clear HO HC hcell hcell0
        go_wp2_with fail
        refine (HO8 _ (Below.refl _ _)).mono ?_
        rintro en wy ⟨rfl, hwy⟩
        have hwy2 := hwy.symm
        clear hwy
        subst hwy2
        go_wp2_with fail
        refine HS8.mono ?_
        rintro en w9 ⟨rfl, hb9⟩
        go_wp2_with (go_at_call 10; refine (HO8 _ hb9).mono ?_; rintro en w10 ⟨rfl, rfl⟩)
        go_roundw
        case rel => exact ⟨j + 1, c8, run8, x8, by omega, by go_num, V8.below hb9, below_heap hb9 hL8.dev, R8, by rw [hz8]; omega, hb8.trans (hb9.mono hb8.size)⟩
        case measure => simp [intOf]; omega
      · have hltI : ¬ (j : Int) < len := by omega
        go_wp2
        go_ret
        exact ⟨rfl, hbr⟩
  | none =>
    have HOP := open_none w3 _ _ c V3 hl
    have R3 := rel_none lv hl
    have hF := R3.format im
    obtain ⟨e1, R5, n5, hn5, e3⟩ := hF
    go_wp2_with fail
    refine HOP.mono ?_
    rintro en w4 ⟨rfl, hb4⟩
    have V4 := V3.below hb4
    have HFM := format_any w4 _ _ c im him (by omega) V4
    have hc4 : ∀ {cx : ChipS} {wx : World}, ChipAt wx (w1.heap.size + 1) w1.heap.size cx → Only (fun x => x = w1.heap.size + 1 ∨ x = w1.heap.size) w4 wx → Dv wx (w1.heap.size + 1) w1.heap.size cx := fun h1 h2 => V4.only h1 h2
    have hb4w := hb3.trans (hb4.mono hb3.size)
    have hsz4 := hb4w.size
    by_cases hv : verB im < 0
    · have hfm : formatM c im = (c, 6) := by unfold formatM; rw [hl]; simp only [if_pos hv]
      rw [hfm] at HFM
      clear e1 R5 e3 hfm
      go_wp2_with fail
      refine (HO3 _ hb4).mono ?_
      rintro en wy ⟨rfl, hwy⟩
      have hwy2 := hwy.symm
      clear hwy
      subst hwy2
      go_wp2_with fail
      refine (HO3 _ hb4).mono ?_
      rintro en wy ⟨rfl, hwy⟩
      have hwy2 := hwy.symm
      clear hwy
      subst hwy2
      go_wp2_with fail
      refine HFM.mono ?_
      rintro en w5 ⟨rfl, hc5, ho5⟩
      have V5 := hc4 hc5 ho5
      have HO5 := ops_any w5 _ _ c V5.chip
      rw [hcp3] at HO5
      have HOP5 := open_none w5 _ _ c V5 hl
      have hb5 : Below w.heap.size w w5 := hb4w.trans (ho5.below hsz4 (by omega))
      go_wp2_with (first
        | (go_at_call 10; refine HO5.mono ?_; rintro en w6 ⟨rfl, hw6⟩; have hw7 := hw6.symm; clear hw6; subst hw7)
        | (go_at_call 11; refine HOP5.mono ?_; rintro en w7 ⟨rfl, hb7⟩))
      have hb8 := hb5.trans (hb7.mono hb5.size)
      refine wp_loop_rounds 1 ?_
      rw [rounds_succ]
      by_cases h0 : (0 : Int) < len
      · go_wp2
        go_ret
        exact ⟨rfl, hb8⟩
      · go_wp2
        go_ret
        exact ⟨rfl, hb8⟩
    · have hz0 : (formatM c im).2 = 0 := by unfold formatM; rw [hl]; simp only [if_neg hv]
      have hr0 : (RefS.format ⟨false, noHeld⟩ im).1.made = true := by unfold RefS.format; simp only [Bool.false_eq_true, if_false, if_neg hv]
      generalize (RefS.format ⟨false, noHeld⟩ im).1 = r5 at *
      obtain ⟨md5, x5⟩ := r5
      simp only at hr0
      subst hr0
      rw [hz0] at HFM
      generalize (formatM c im).1 = c5 at *
      have e3' : c5.ops = p3 + n5 := by rw [e3, hcp3]
      have hn5I : (n5 : Int) ≤ 64 := by omega
      clear e1 hz0 e3
      go_wp2_with fail
      refine (HO3 _ hb4).mono ?_
      rintro en wy ⟨rfl, hwy⟩
      have hwy2 := hwy.symm
      clear hwy
      subst hwy2
      go_wp2_with fail
      refine (HO3 _ hb4).mono ?_
      rintro en wy ⟨rfl, hwy⟩
      have hwy2 := hwy.symm
      clear hwy
      subst hwy2
      go_wp2_with fail
      refine HFM.mono ?_
      rintro en w5 ⟨rfl, hc5, ho5⟩
      have V5 := hc4 hc5 ho5
      have HO5 := ops_any w5 _ _ c5 V5.chip
      rw [e3'] at HO5
      have HOP5 := open_some w5 _ _ c5 x5 V5 (R5.yes rfl).1
      have hb5 : Below w.heap.size w w5 := hb4w.trans (ho5.below hsz4 (by omega))
      go_wp2_with (first
        | (go_at_call 10; refine HO5.mono ?_; rintro en w6 ⟨rfl, hw6⟩; have hw7 := hw6.symm; clear hw6; subst hw7)
        | (go_at_call 11; refine HOP5.mono ?_; rintro en w7 ⟨q, rfl, hq1, hq2, hb7⟩))
      have hqB : w.heap.size ≤ q := Nat.le_trans hb5.size hq1
      clear HO5 HOP5 HFM HOP HO3
      go_loopw [9, 12, 13] (fun _ i _ wr => ∃ (j : Nat) (c' : ChipS) (run' : Int) (x' : HeldS), j ≤ len ∧ i = .int .i64 j ∧ Dv wr (w1.heap.size + 1) w1.heap.size c' ∧ wr.heap[q]? = some (.cells (devC (w1.heap.size + 1) run') 66 (0, 0)) ∧ Rel c' ⟨true, x'⟩ ∧ c'.ops ≤ 256 + 64 * (j : Int) ∧ Below w.heap.size w wr) (fun _ i _ _ => len - (intOf i).toNat)
      case atStart => exact ⟨0, c5, 0, x5, by omega, rfl, V5.below hb7, hq2, R5, by omega, hb5.trans (hb7.mono hb5.size)⟩
      case round =>
        obtain ⟨j, c', run', x', hj, rfl, V', hq', R', ho', hbr⟩ := hrel
        by_cases hlt : j < len
        · have hltI : (j : Int) < len := by omega
          obtain ⟨bb, oo, rfl, hcell0, hbb⟩ := hA.cells j hlt
          have hzb := hA.wf (zs.getD j 0) (by
            have hjl : j < zs.length := Nat.lt_of_lt_of_le hlt hA.len1
            rw [List.getD_eq_getElem?_getD, List.getElem?_eq_getElem hjl]
            exact List.getElem_mem hjl)
          generalize zs.getD j 0 = z at *
          obtain ⟨z0, z1⟩ := hzb
          have hcell : wr.cell? ⟨bb, oo + j, none⟩ = some (.int .i64 z) := (hbr.cell (p := ⟨bb, oo + j, none⟩) hbb).trans hcell0
          have HO := ops_any wr _ _ c' V'.chip
          have HC := callsK_any wr _ _ q c' run' z x' V' hq' R' (by omega) z0 z1
          have hp0 := V'.chip.ops0
          have hT' := V'.turns
          generalize hcp : c'.ops = p at *
          go_wp2_with fail
          refine HO.mono ?_
          rintro en wy ⟨rfl, hwy⟩
          have hwy2 := hwy.symm
          clear hwy
          subst hwy2
          go_wp2_with fail
          refine HC.mono ?_
          rintro en w8 ⟨rfl, ⟨c8, run8, x8, hL8, R8, n8, hn8, ho8⟩⟩
          have V8 : Dv w8 (w1.heap.size + 1) w1.heap.size c8 := ⟨hL8.chip, hT'.only hL8.only (by omega), by omega, by omega⟩
          have HO8 := fun wx (hb : Below w8.heap.size w8 wx) => ops_any wx _ _ c8 (V8.below hb).chip
          have hz8 : c8.ops = p + n8 := by rw [ho8, hcp]
          rw [hz8] at HO8
          have HS8 := state_any w8 q _ _ c8 run8 x8 V8 hL8.dev (R8.yes rfl).1
          have hn8I : (n8 : Int) ≤ 64 := by omega
          have hb8 : Below w.heap.size w w8 := hbr.trans (hL8.only.below hbr.size (by omega))
          have hfit : p + (n8 : Int) - p = n8 := by omega
          clear HO HC hcell hcell0
          go_wp2_with fail
          refine (HO8 _ (Below.refl _ _)).mono ?_
          rintro en wy ⟨rfl, hwy⟩
          have hwy2 := hwy.symm
          clear hwy
          subst hwy2
          go_wp2_with fail
          refine HS8.mono ?_
          rintro en w9 ⟨rfl, hb9⟩
          go_wp2_with (go_at_call 10; refine (HO8 _ hb9).mono ?_; rintro en w10 ⟨rfl, rfl⟩)
          go_roundw
          case rel => exact ⟨j + 1, c8, run8, x8, by omega, by go_num, V8.below hb9, below_heap hb9 hL8.dev, R8, by rw [hz8]; omega, hb8.trans (hb9.mono hb8.size)⟩
          case measure => simp [intOf]; omega
        · have hltI : ¬ (j : Int) < len := by omega
          go_wp2
          go_ret
          exact ⟨rfl, hbr⟩
end Go.Proofs.YtcokahccbjdeaabDoor
