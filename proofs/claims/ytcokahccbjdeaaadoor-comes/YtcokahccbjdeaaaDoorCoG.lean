import Derived.Test.YtcokahccbjdeaaaDoorCoF
namespace Go.Proofs.YtcokahccbjdeaaaDoor
open Go.RowKit

theorem state_staged (w : World) (B k b g q : Nat) (c : ChipS) (run : Int) (L : Log) (gd : ByteArray) (f : Int) (im : ByteArray) (e : Nat) (he : e ≤ im.size) (S : Ship B w k b g q c run L) (R : Rel c (stagedR gd f im e)) :
    Calls Tryd.prog 24 #[.pointer (some ⟨q, 0, none⟩)] w fun en w' => en = .returned (.agg #[.int .i64 (verB gd), .int .i64 f, .int .i64 (verB (tx [])), .int .i64 0, .int .i64 im.size, .int .i64 e, .int .i64 run]) ∧ Below w.heap.size w w' := by
  have HST := rd_state w B k b g q c run L _ S R rfl
  have hst : (stateM (stagedR gd f im e).h run).v = .agg #[.int .i64 (verB gd), .int .i64 f, .int .i64 (verB (tx [])), .int .i64 0, .int .i64 im.size, .int .i64 (e : Nat), .int .i64 run] := by
    unfold stateM StateS.v stagedR
    simp only [ByteArray.size_extract]
    rw [show min e im.size - 0 = e by omega]
  rw [hst] at HST
  exact HST
theorem state_trial (w : World) (B k b g q : Nat) (c : ChipS) (run : Int) (L : Log) (gd : ByteArray) (f : Int) (im : ByteArray) (t : Int) (S : Ship B w k b g q c run L) (R : Rel c (trialR gd f im t)) :
    Calls Tryd.prog 24 #[.pointer (some ⟨q, 0, none⟩)] w fun en w' => en = .returned (.agg #[.int .i64 (verB gd), .int .i64 f, .int .i64 (verB im), .int .i64 t, .int .i64 0, .int .i64 0, .int .i64 run]) ∧ Below w.heap.size w w' :=
  rd_state w B k b g q c run L _ S R rfl
theorem Ship.drew {B : Nat} {w : World} {k b g q : Nat} {c : ChipS} {run : Int} {L : Log} (S : Ship B w k b g q c run L) : Ship B w.drew k b g q c run L ∧ FrS B w w.drew := S.below (Below.refl _ _).drew
set_option maxRecDepth 100000 in
set_option maxHeartbeats 1000000 in
theorem comes_any (w : World) (B N k : Nat) (run : Int) (gd : ByteArray) (f : Int) (im : ByteArray) (v n : Int) (ag : Bool) (h : Rd B N w k run (bareR gd f)) (hN : N ≤ 1000) (hI : Image im v) (hv : f ≤ verB im) (hf : 0 ≤ f) (n0 : 1 ≤ n) (n8 : n ≤ 8) :
    Calls Tryd.prog 10 #[.pointer (some ⟨k, 0, none⟩), .string im, .int .i64 n, .bool ag] w fun e w' => e = .returned (.bool true) ∧ (∃ run', Rd B 20000 w' k run' (trialR gd f im 3)) ∧ FrS B w w' := by
  obtain ⟨b, g, q, c, L, S, R, m, o⟩ := h
  have hz := hI.size
  have hne := hI.ne
  have HS := rd_stage w B N k b g q c run L _ _ im.size S R m o (by omega) (stage_r gd f im hI.ne hI.size)
  have d0 := look_ship S.s.hk
  go_enter Tryd.func10, Tryd.ntmps10
  go_wp2_with (go_at_call 22; refine HS.mono ?_; rintro en w1 ⟨rfl, ⟨c0, S0, R0, o0⟩, hF1⟩)
  go_loopw [9, 10, 11, 12, 13] (fun e gt _ _ _ wr => ∃ (p : Nat) (run' : Int), p ≤ im.size ∧ e = .int .i64 0 ∧ gt = .int .i64 p ∧ Rd B (N + 64 + 64 * p) wr k run' (stagedR gd f im p) ∧ FrS B w wr) (fun _ gt _ _ _ _ => im.size - (intOf gt).toNat)
  case atStart => exact ⟨0, run, by omega, rfl, rfl, ⟨b, g, q, c0, L, S0, R0, rfl, by omega⟩, hF1⟩
  case round =>
    clear d0 HS hF1 S0 R0 o0 S R
    obtain ⟨p, run', hp, rfl, rfl, ⟨b1, g1, q1, c1, L1, S1, R1, m1, o1⟩, hFr⟩ := hrel
    have d1 := look_ship S1.s.hk
    by_cases hlt : p < im.size
    · have hltI : (p : Int) < im.size := by omega
      obtain ⟨nn, rfl⟩ : ∃ nn : Nat, n = nn := ⟨n.toNat, by omega⟩
      obtain ⟨S1d, F1d⟩ := S1.drew
      by_cases hend : (im.size : Int) < p + nn
      · have HW := rd_write wr.drew B (N + 64 + 64 * p) k b1 g1 q1 c1 run' L1 _ _ (im.extract p im.size) S1d R1 m1 o1 (by omega) (by rw [ByteArray.size_extract]; omega) (write_r gd f im p im.size (by omega) (by omega) (by omega))
        have hT0 : wr.drew.cell? ⟨k, 1, none⟩ = some (.pointer (some ⟨q1, 0, none⟩)) := d1
        have e1 : (0 : Int) ≤ p := by omega
        have e2 : (p : Int) ≤ im.size := by omega
        have e3 : (im.size : Int) ≤ im.size := by omega
        go_wp2_with fail
        go_region_held3 (fun w' => w'.cell? ⟨k, 1, none⟩ = some (.pointer (some ⟨q1, 0, none⟩))) ((first | with_reducible exact hT0 | with_reducible exact hT4))
          (first | (go_at_call 23; refine HW.mono ?_; rintro en w5 ⟨rfl, ⟨c5, S5, R5, o5⟩, F5⟩; have hT4 := look_ship S5.s.hk))
        cases ag
        · have HST := state_staged w5 B k b1 g1 q1 c5 run' L1 gd f im im.size (by omega) S5 R5
          go_wp2_with (go_at_call 24; refine HST.mono ?_; rintro en w7 ⟨rfl, hb7⟩; obtain ⟨S8, F8⟩ := S5.below (hb7.alloc hb7.size (.cells #[.int .i64 (verB gd), .int .i64 f, .int .i64 (verB (tx [])), .int .i64 0, .int .i64 im.size, .int .i64 (im.size : Int), .int .i64 run'] 65)))
          go_roundw
          case rel => exact ⟨im.size, run', by omega, rfl, by go_num, ⟨b1, g1, q1, c5, L1, S8, R5, rfl, by omega⟩, hFr.trans (F1d.trans (F5.trans F8))⟩
          case measure => simp [intOf]; omega
        · have HRE := reopened_rd w5 B _ k run' _ ⟨b1, g1, q1, c5, L1, S5, R5, rfl, o5⟩
          go_wp2_with (first
            | (go_at_call 14; refine HRE.mono ?_; rintro en w6 ⟨rfl, ⟨b6, g6, q6, c6, L6, S6, R6, m6, o6⟩, F6⟩; have HST := state_staged w6 B k b6 g6 q6 c6 0 L6 gd f im im.size (by omega) S6 R6; have d6 := look_ship S6.s.hk)
            | (go_at_call 24; refine HST.mono ?_; rintro en w7 ⟨rfl, hb7⟩; obtain ⟨S8, F8⟩ := S6.below (hb7.alloc hb7.size (.cells #[.int .i64 (verB gd), .int .i64 f, .int .i64 (verB (tx [])), .int .i64 0, .int .i64 im.size, .int .i64 (im.size : Int), .int .i64 0] 65))))
          go_roundw
          case rel => exact ⟨im.size, 0, by omega, rfl, by go_num, ⟨b6, g6, q6, c6, L6, S8, R6, m6, by omega⟩, hFr.trans (F1d.trans (F5.trans (F6.trans F8)))⟩
          case measure => simp [intOf]; omega
      · have HW := rd_write wr.drew B (N + 64 + 64 * p) k b1 g1 q1 c1 run' L1 _ _ (im.extract p (p + nn)) S1d R1 m1 o1 (by omega) (by rw [ByteArray.size_extract]; omega) (write_r gd f im p (p + nn) (by omega) (by omega) (by omega))
        have hT0 : wr.drew.cell? ⟨k, 1, none⟩ = some (.pointer (some ⟨q1, 0, none⟩)) := d1
        have e1 : (0 : Int) ≤ p := by omega
        have e2 : (p : Int) ≤ p + nn := by omega
        have e3 : (p + nn : Int) ≤ im.size := by omega
        go_wp2_with fail
        go_region_held3 (fun w' => w'.cell? ⟨k, 1, none⟩ = some (.pointer (some ⟨q1, 0, none⟩))) ((first | with_reducible exact hT0 | with_reducible exact hT4))
          (first | (go_at_call 23; refine HW.mono ?_; rintro en w5 ⟨rfl, ⟨c5, S5, R5, o5⟩, F5⟩; have hT4 := look_ship S5.s.hk))
        cases ag
        · have HST := state_staged w5 B k b1 g1 q1 c5 run' L1 gd f im (p + nn) (by omega) S5 R5
          go_wp2_with (go_at_call 24; refine HST.mono ?_; rintro en w7 ⟨rfl, hb7⟩; obtain ⟨S8, F8⟩ := S5.below (hb7.alloc hb7.size (.cells #[.int .i64 (verB gd), .int .i64 f, .int .i64 (verB (tx [])), .int .i64 0, .int .i64 im.size, .int .i64 ((p + nn : Nat) : Int), .int .i64 run'] 65)))
          go_roundw
          case rel => exact ⟨(p + nn), run', by omega, rfl, by go_num, ⟨b1, g1, q1, c5, L1, S8, R5, rfl, by omega⟩, hFr.trans (F1d.trans (F5.trans F8))⟩
          case measure => simp [intOf]; omega
        · have HRE := reopened_rd w5 B _ k run' _ ⟨b1, g1, q1, c5, L1, S5, R5, rfl, o5⟩
          go_wp2_with (first
            | (go_at_call 14; refine HRE.mono ?_; rintro en w6 ⟨rfl, ⟨b6, g6, q6, c6, L6, S6, R6, m6, o6⟩, F6⟩; have HST := state_staged w6 B k b6 g6 q6 c6 0 L6 gd f im (p + nn) (by omega) S6 R6; have d6 := look_ship S6.s.hk)
            | (go_at_call 24; refine HST.mono ?_; rintro en w7 ⟨rfl, hb7⟩; obtain ⟨S8, F8⟩ := S6.below (hb7.alloc hb7.size (.cells #[.int .i64 (verB gd), .int .i64 f, .int .i64 (verB (tx [])), .int .i64 0, .int .i64 im.size, .int .i64 ((p + nn : Nat) : Int), .int .i64 0] 65))))
          go_roundw
          case rel => exact ⟨(p + nn), 0, by omega, rfl, by go_num, ⟨b6, g6, q6, c6, L6, S8, R6, m6, by omega⟩, hFr.trans (F1d.trans (F5.trans (F6.trans F8)))⟩
          case measure => simp [intOf]; omega
    · have hpe : p = im.size := by omega
      subst hpe
      have hltI : ¬ (im.size : Int) < im.size := by omega
      have HA := rd_activate wr B _ k b1 g1 q1 c1 run' L1 _ _ S1 R1 m1 o1 (by omega) (activate_r gd f im hI.ne hv hf)
      go_wp2_with (first
        | (go_at_call 25; refine HA.mono ?_; rintro en w5 ⟨rfl, ⟨c5, S5, R5, o5⟩, F5⟩; have HST := state_trial w5 B k b1 g1 q1 c5 run' L1 gd f im 3 S5 R5; have d5 := look_ship S5.s.hk)
        | (go_at_call 24; refine HST.mono ?_; rintro en w7 ⟨rfl, hb7⟩; obtain ⟨S8, F8⟩ := S5.below (hb7.alloc hb7.size (.cells #[.int .i64 (verB gd), .int .i64 f, .int .i64 (verB im), .int .i64 3, .int .i64 0, .int .i64 0, .int .i64 run'] 65))))
      go_ret
      exact ⟨rfl, ⟨run', b1, g1, q1, c5, L1, S8, R5, rfl, by omega⟩, hFr.trans (F5.trans F8)⟩
end Go.Proofs.YtcokahccbjdeaaaDoor
