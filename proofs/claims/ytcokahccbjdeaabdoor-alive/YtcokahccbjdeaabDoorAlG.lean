import Derived.Test.YtcokahccbjdeaabDoorAlF
import Derived.Test.YtcokahccbjdeaabDoorStL
import Derived.Test.YtcokahccbjdeaabDoorStN
namespace Go.Proofs.YtcokahccbjdeaabDoor
open Go.RowKit

def stagedH (h : HeldS) (im : ByteArray) (p : Nat) : HeldS := ⟨h.good, h.floor, tx [], 0, im.size, im.extract 0 p⟩
def trialH (h : HeldS) (im : ByteArray) : HeldS := ⟨h.good, h.floor, im, 3, 0, tx []⟩
theorem stage_h {h : HeldS} (k : h.ok) (ht : h.trial.size = 0) (im : ByteArray) (h1 : ¬ im.size = 0) (h2 : im.size ≤ 120) : RefS.stage ⟨true, h⟩ im.size = (⟨true, stagedH h im 0⟩, 0) := by
  obtain ⟨e1, e2⟩ := k.noTrial ht
  unfold RefS.stage stagedH
  rw [if_neg (by omega)]
  simp only
  rw [if_neg (by omega)]
  have : im.extract 0 0 = tx [] := empty_of_size (by simp)
  rw [this, e1, e2]
theorem write_h (h : HeldS) (im : ByteArray) (p e : Nat) (h1 : p < e) (h2 : e ≤ im.size) (h3 : e ≤ p + 8) : RefS.write ⟨true, stagedH h im p⟩ (im.extract p e) = (⟨true, stagedH h im e⟩, 0) := by
  unfold RefS.write stagedH
  have z1 : (im.extract p e).size = e - p := by rw [ByteArray.size_extract]; omega
  have z2 : (im.extract 0 p).size = p := by rw [ByteArray.size_extract]; omega
  simp only [z1, z2]
  rw [if_neg (by omega), if_neg (by omega)]
  have : im.extract 0 p ++ im.extract p e = im.extract 0 e := by
    rw [ByteArray.extract_append_extract]
    congr 1 <;> omega
  rw [this]
theorem activate_h (h : HeldS) (im : ByteArray) (h1 : ¬ im.size = 0) (h0 : 0 ≤ verB im) : RefS.activate ⟨true, stagedH h im im.size⟩ = if verB im < h.floor then (⟨true, stagedH h im im.size⟩, 13) else (⟨true, trialH h im⟩, 0) := by
  unfold RefS.activate stagedH trialH
  simp only [ByteArray.extract_zero_size]
  rw [if_neg (by omega), if_neg (by omega), if_neg (by omega)]
theorem safe_staged {h : HeldS} {G : List ByteArray} {of of' : ByteArray} {bt bt' fl : Int} (s : Safe h G of bt fl) (im : ByteArray) (p : Nat) (b0 : 0 ≤ bt') (b3 : bt' ≤ 3) : Safe (stagedH h im p) G of' bt' fl := s.idle rfl (Int.le_refl _) rfl b0 b3
theorem safe_trial {h : HeldS} {G : List ByteArray} {of : ByteArray} {bt fl : Int} (s : Safe h G of bt fl) (im : ByteArray) : Safe (trialH h im) G im 0 fl :=
  ⟨s.good, s.imgs, fun _ => ⟨rfl, by show (0 : Int) + 3 ≤ 3; omega⟩, by omega, by omega, s.floor⟩
set_option maxRecDepth 100000 in
set_option maxHeartbeats 2000000 in
theorem takesK_any (w : World) (B N M k b g q : Nat) (c : ChipS) (run : Int) (L : Log) (G : List ByteArray) (h : HeldS) (o : StepS) (hok : o.ok) (hN : N ≤ 4611686018427290000) (A : Sea B N M w k b g q c run L G h) :
    Calls Tryd.prog 17 #[.pointer (some ⟨k, 0, none⟩), o.v] w fun e w' => e = .returned (.bool true) ∧ (∃ c' L' h', Mid B (N + 9000) M w' k b g q c' run L' G h') ∧ FrS B w w' := by
  obtain ⟨hl, hk⟩ := A.on.load
  obtain ⟨U, ucells, uops, _⟩ := arm_up A.live o
  have on1 : On (c.arm o).cells h := by rw [ucells]; exact A.on
  have hops := A.ops
  have hb1 : ∀ x, Below w.heap.size w (w.alloc x) := fun x => (Below.refl _ _).alloc (Nat.le_refl _) x
  have hrow := A.row
  have hs := A.safe
  have hlenG := A.len
  have hrn := A.rn
  have htwo := A.two
  have hsh := A.S
  have b0 := hs.bt0
  have b3 := hs.bt3
  obtain ⟨lk, lb, lg, lB⟩ := A.S.s.lt
  have hop2 : (c.arm o).ops ≤ (N : Int) := by omega
  have hO0 := heap_alloc_new w (.cells o.cs 27)
  have ha0 := hok.a0
  have ha1 := hok.a1
  obtain ⟨kd, a, ct, tn⟩ := o
  simp only [StepS.v, StepS.cs] at *
  go_enter Tryd.func17, Tryd.ntmps17
  go_wp2_with fail
  refine (small_any _ a ha0 ha1).mono ?_
  rintro en w1 ⟨im, v, rfl, hI, v1, v7, hb1'⟩
  have hbw1 := (hb1 _).trans (hb1'.mono (by simp))
  have O1 : w1.heap[w.heap.size]? = some (.cells (StepS.cs ⟨kd, a, ct, tn⟩) 27 (0, 0)) := below_heap hb1' hO0
  obtain ⟨o0, o1, o2, o3, of⟩ := stepS_cells O1
  simp only at o0 o1 o2 o3
  obtain ⟨S1, F1⟩ := hsh.below hbw1
  have d1 := look_ship S1.s.hk
  have HPI : Calls Tryd.prog 32 #[.int .i64 a, .int .i64 8] w1 fun e w' => ∃ r : Int, e = .returned (.int .i64 r) ∧ 0 ≤ r ∧ r < 8 ∧ w' = w1 := pick_any w1 a 8 ha0 ha1 (by omega) (by omega)
  have HST : Calls Tryd.prog 14 #[.pointer (some ⟨q, 0, none⟩)] w1 fun e w' => e = .returned (.agg #[.int .i64 (verB h.good), .int .i64 h.floor, .int .i64 (verB h.trial), .int .i64 h.tries, .int .i64 h.size, .int .i64 (h.got.size : Int), .int .i64 run]) ∧ Below w1.heap.size w1 w' := state_any w1 q b g c run h S1.s.dv S1.hq hl
  go_wp2_with fail
  refine HPI.mono ?_
  rintro en wy ⟨rp, rfl, rp0, rp8, hwy⟩
  have hwy2 := hwy.symm
  clear hwy
  subst hwy2
  go_wp2_with fail
  refine HST.mono ?_
  rintro en w2' ⟨rfl, hb2⟩
  have O2 : ∀ x, (w2'.alloc x).heap[w.heap.size]? = some (.cells (StepS.cs ⟨kd, a, ct, tn⟩) 27 (0, 0)) := fun x => alloc_heap (below_heap hb2 O1) x
  have n0 : ∀ x, (w2'.alloc x).cell? ⟨w.heap.size, 0, none⟩ = some (.int .i64 kd) := fun x => (stepS_cells (O2 x)).1
  have n1 : ∀ x, (w2'.alloc x).cell? ⟨w.heap.size, 1, none⟩ = some (.int .i64 a) := fun x => (stepS_cells (O2 x)).2.1
  have n2 : ∀ x, (w2'.alloc x).cell? ⟨w.heap.size, 2, none⟩ = some (.int .i64 ct) := fun x => (stepS_cells (O2 x)).2.2.1
  have n3 : ∀ x, (w2'.alloc x).cell? ⟨w.heap.size, 3, none⟩ = some (.string tn) := fun x => (stepS_cells (O2 x)).2.2.2.1
  clear HPI HST o0 o1 o2 o3 of d1
  go_wp2_with fail
  have P2 := heap_alloc_new w2' (.cells #[.int .i64 (verB h.good), .int .i64 h.floor, .int .i64 (verB h.trial), .int .i64 h.tries, .int .i64 h.size, .int .i64 (h.got.size : Int), .int .i64 run] 44)
  obtain ⟨S2, F2⟩ := S1.below (hb2.alloc hb2.size (.cells #[.int .i64 (verB h.good), .int .i64 h.floor, .int .i64 (verB h.trial), .int .i64 h.tries, .int .i64 h.size, .int .i64 (h.got.size : Int), .int .i64 run] 44))
  have hp : w.heap.size ≤ w2'.heap.size := Nat.le_trans hbw1.size hb2.size
  generalize w2'.alloc (.cells #[.int .i64 (verB h.good), .int .i64 h.floor, .int .i64 (verB h.trial), .int .i64 h.tries, .int .i64 h.size, .int .i64 (h.got.size : Int), .int .i64 run] 44) = w2 at *
  generalize w2'.heap.size = pb at *
  have HAR := armedK_any w2 k b g c _ L ⟨kd, a, ct, tn⟩ hok S2.s.hk S2.s.dv.chip
  simp only [StepS.v] at HAR
  refine HAR.mono ?_
  rintro en w3 ⟨rfl, hc3, ho3⟩
  obtain ⟨S3, F3⟩ := S2.chip hc3 ho3
  have nP : ¬ (pb = b ∨ pb = g) := by omega
  have P3 := ho3.heap P2 nP
  have d3 := look_ship S3.s.hk
  have hz := hI.size
  have hne := hI.ne
  have hzI : (im.size : Int) ≤ 120 := by omega
  clear HAR n0 n1 n2 n3 O2 O1 P2 S2 S1 hO0 hsh
  go_wp2_with fail
  refine (stage_any w3 q b g _ run im.size (by omega) S3.s.dv S3.hq on1.oks).mono ?_
  rintro en w4 ⟨rfl, hc4, ho4⟩
  have sh := shape_stage on1.load.1 hk (im.size : Int)
  obtain ⟨D, hmade⟩ := sh.did U on1
  rw [sh.err]
  obtain ⟨S4, F4⟩ := S3.chip hc4 ho4
  have P4 := ho4.heap P3 nP
  have d4 := (ship_cells S4.s.hk).1
  have HD := dead_any w4 b g _ S4.s.dv.chip
  have hFr := F1.trans (F2.trans (F3.trans F4))
  have hrow4 := own_keep hrow hFr
  have p2 : w4.cell? ⟨pb, 2, none⟩ = some (.int .i64 (verB h.trial)) := by rw [cell_of_heap P4]; rfl
  clear d3 hc3 ho3 hc4 ho4 S3 P3 hmade sh
  by_cases hT : h.trial.size ≠ 0
  · have hst : RefS.stage ⟨true, h⟩ im.size = (⟨true, h⟩, 10) := by unfold RefS.stage; rw [if_neg (by omega)]; simp only [if_pos hT]
    rw [hst] at D
    rw [hst]
    have hvt : 0 ≤ verB h.trial := by have := (hk.onTrial hT).2.2.2; have := hk.fl; omega
    have hMid := Mid.of (c1 := c.arm ⟨kd, a, ct, tn⟩) S4 hrow4 D (fun _ => hs) hs (fun _ => ⟨hrn, htwo⟩) hop2 hlenG
    obtain ⟨h', hm⟩ := hMid
    have hup : ∃ c' L' h', Mid B (N + 9000) M w4 k b g q c' run L' G h' := ⟨_, _, h', hm.S, hm.row, hm.on, hm.safe, hm.up, by have := hm.ops; omega, hm.len⟩
    cases hd : (stageM (c.arm ⟨kd, a, ct, tn⟩) im.size).1.dead with
    | true =>
      rw [hd] at HD
      go_wp2_with (go_at_call 22; refine HD.mono ?_; rintro en w5 ⟨rfl, hw5⟩; have hw6 := hw5.symm; clear hw5; subst hw6)
      go_ret
      exact ⟨rfl, hup, hFr⟩
    | false =>
      rw [hd] at HD
      go_wp2_with (go_at_call 22; refine HD.mono ?_; rintro en w5 ⟨rfl, hw5⟩; have hw6 := hw5.symm; clear hw5; subst hw6)
      go_ret
      exact ⟨rfl, hup, hFr⟩
  · have hT0 : h.trial.size = 0 := by omega
    have hr2 : ¬ run = 2 := fun e => hT (htwo e)
    rw [stage_h hk hT0 im hne hz] at D
    rw [stage_h hk hT0 im hne hz]
    simp only at D
    cases hd : (stageM (c.arm ⟨kd, a, ct, tn⟩) im.size).1.dead with
    | true =>
      rw [hd] at HD
      obtain ⟨h', hm⟩ := Mid.of (c1 := c.arm ⟨kd, a, ct, tn⟩) S4 hrow4 D (fun _ => hs) (safe_staged hs im 0 b0 b3) (fun e => by rw [hd] at e; cases e) hop2 hlenG
      have hup : ∃ c' L' h', Mid B (N + 9000) M w4 k b g q c' run L' G h' := ⟨_, _, h', hm.S, hm.row, hm.on, hm.safe, hm.up, by have := hm.ops; omega, hm.len⟩
      go_wp2_with (go_at_call 22; refine HD.mono ?_; rintro en w5 ⟨rfl, hw5⟩; have hw6 := hw5.symm; clear hw5; subst hw6)
      go_ret
      exact ⟨rfl, hup, hFr⟩
    | false =>
      rw [hd] at HD
      obtain ⟨U4, on4⟩ : Up (stageM (c.arm ⟨kd, a, ct, tn⟩) im.size).1 ∧ On (stageM (c.arm ⟨kd, a, ct, tn⟩) im.size).1.cells (stagedH h im 0) := by
        rcases D.fin with e | ⟨e, _⟩
        · exact e
        · rw [hd] at e; cases e
      obtain ⟨m4, hm4, e4⟩ := D.ops
      generalize (stageM (c.arm ⟨kd, a, ct, tn⟩) im.size).1 = c4 at *
      obtain ⟨nn, hnn⟩ : ∃ nn : Nat, 1 + rp = nn := ⟨(1 + rp).toNat, by omega⟩
      rw [hnn]
      have hn1 : 1 ≤ nn := by omega
      have hn8 : nn ≤ 8 := by omega
      have hn8I : (nn : Int) ≤ 8 := by omega
      have hn1I : (1 : Int) ≤ nn := by omega
      go_wp2_with fail
      refine HD.mono ?_
      rintro en w5 ⟨rfl, hw5⟩
      have hw6 := hw5.symm
      clear hw5
      subst hw6
      clear HD d4 p2 on1 U D
      go_wp2_with fail
      go_loopw [9, 10, 11] (fun _ at_ _ wr => ∃ (i : Nat) (cp : ChipS), i ≤ im.size + 8 ∧ at_ = .int .i64 i ∧ On cp.cells (stagedH h im (min i im.size)) ∧ Up cp ∧ Ship B wr k b g q cp run L ∧ wr.heap[pb]? = some (.cells #[.int .i64 (verB h.good), .int .i64 h.floor, .int .i64 (verB h.trial), .int .i64 h.tries, .int .i64 h.size, .int .i64 (h.got.size : Int), .int .i64 run] 44 (0, 0)) ∧ FrS B w wr ∧ cp.ops ≤ (N : Int) + 64 + 64 * i) (fun _ at_ _ _ => im.size + 16 - (intOf at_).toNat)
      case atStart => exact ⟨0, c4, by omega, rfl, by rw [Nat.zero_min]; exact on4, U4, S4, P4, hFr, by omega⟩
      case round =>
        obtain ⟨i, cp, hi, rfl, onp, Upp, S5, Pr, hFw, hopsp⟩ := hrel
        by_cases hlt : i < im.size
        · have hltI : (i : Int) < im.size := by omega
          have hmi : min i im.size = i := by omega
          rw [hmi] at onp
          have dk := look_ship S5.s.hk
          obtain ⟨S5d, F5d⟩ := S5.below (w' := wr.drew) (Below.refl _ _).drew
          by_cases hend : (im.size : Int) < i + nn
          · have sh5 := shape_write (c := cp) onp.load.1 onp.load.2 (im.extract i im.size)
            rw [write_h h im i im.size (by omega) (by omega) (by omega)] at sh5
            obtain ⟨D5, _⟩ := sh5.did Upp onp
            have herr5 := sh5.err
            simp only at herr5 D5
            have HW := write_any wr.drew q b g cp run (im.extract i im.size) (by rw [ByteArray.size_extract]; omega) (by omega) S5d.s.dv S5d.hq onp.oks
            rw [herr5] at HW
            have f1 : (0 : Int) ≤ i := by omega
            have f2 : (i : Int) ≤ im.size := by omega
            have f3 : (im.size : Int) ≤ im.size := by omega
            have hT0 : wr.drew.cell? ⟨k, 1, none⟩ = some (.pointer (some ⟨q, 0, none⟩)) := dk
            go_upto_region 18 with fail
            go_region_held3 (fun w' => w'.cell? ⟨k, 1, none⟩ = some (.pointer (some ⟨q, 0, none⟩))) ((first | with_reducible exact hT0 | with_reducible exact hT6))
              (first | (go_at_call 34; refine HW.mono ?_; rintro en w6 ⟨rfl, hc6, ho6⟩; have hT6 := look_ship (S5d.chip hc6 ho6).1.s.hk))
            obtain ⟨S6, F6⟩ := S5d.chip hc6 ho6
            have P6 := ho6.heap (w := wr.drew) Pr nP
            have HD6 := dead_any w6 b g _ S6.s.dv.chip
            have c6 := (ship_cells S6.s.hk).1
            have hF6 := hFw.trans (F5d.trans F6)
            have hmin : min (i + nn) im.size = im.size := by omega
            obtain ⟨m6, hm6, e6⟩ := D5.ops
            clear hT0 hT6 HW hc6 ho6 dk
            generalize (writeM cp (im.extract i im.size)).1 = c6' at *
            cases hd6 : c6'.dead with
            | true =>
              rw [hd6] at HD6
              obtain ⟨h', hm⟩ := Mid.of (c1 := cp) (N := N + 64 + 64 * i) S6 (own_keep hrow hF6) D5 (fun _ => safe_staged hs im _ b0 b3) (safe_staged hs im _ b0 b3) (fun e => by rw [hd6] at e; cases e) (by omega) hlenG
              have hup : ∃ c' L' h', Mid B (N + 9000) M w6 k b g q c' run L' G h' := ⟨_, _, h', hm.S, hm.row, hm.on, hm.safe, hm.up, by have := hm.ops; omega, hm.len⟩
              go_wp2_with (go_at_call 22; refine HD6.mono ?_; rintro en w7 ⟨rfl, hw7⟩; have hw8 := hw7.symm; clear hw7; subst hw8)
              go_ret
              exact ⟨rfl, hup, hF6⟩
            | false =>
              rw [hd6] at HD6
              obtain ⟨U6, on6⟩ : Up c6' ∧ On c6'.cells (stagedH h im im.size) := by
                rcases D5.fin with e | ⟨e, _⟩
                · exact e
                · rw [hd6] at e; cases e
              go_wp2_with (go_at_call 22; refine HD6.mono ?_; rintro en w7 ⟨rfl, hw7⟩; have hw8 := hw7.symm; clear hw7; subst hw8)
              go_roundw
              case rel => exact ⟨i + nn, c6', by omega, by go_num, by rw [hmin]; exact on6, U6, S6, P6, hF6, by omega⟩
              case measure => simp [intOf]; omega
          · have sh5 := shape_write (c := cp) onp.load.1 onp.load.2 (im.extract i (i + nn))
            rw [write_h h im i (i + nn) (by omega) (by omega) (by omega)] at sh5
            obtain ⟨D5, _⟩ := sh5.did Upp onp
            have herr5 := sh5.err
            simp only at herr5 D5
            have HW := write_any wr.drew q b g cp run (im.extract i (i + nn)) (by rw [ByteArray.size_extract]; omega) (by omega) S5d.s.dv S5d.hq onp.oks
            rw [herr5] at HW
            have f1 : (0 : Int) ≤ i := by omega
            have f2 : (i : Int) ≤ i + nn := by omega
            have f3 : (i + nn : Int) ≤ im.size := by omega
            have hT0 : wr.drew.cell? ⟨k, 1, none⟩ = some (.pointer (some ⟨q, 0, none⟩)) := dk
            go_upto_region 18 with fail
            go_region_held3 (fun w' => w'.cell? ⟨k, 1, none⟩ = some (.pointer (some ⟨q, 0, none⟩))) ((first | with_reducible exact hT0 | with_reducible exact hT6))
              (first | (go_at_call 34; refine HW.mono ?_; rintro en w6 ⟨rfl, hc6, ho6⟩; have hT6 := look_ship (S5d.chip hc6 ho6).1.s.hk))
            obtain ⟨S6, F6⟩ := S5d.chip hc6 ho6
            have P6 := ho6.heap (w := wr.drew) Pr nP
            have HD6 := dead_any w6 b g _ S6.s.dv.chip
            have c6 := (ship_cells S6.s.hk).1
            have hF6 := hFw.trans (F5d.trans F6)
            have hmin : min (i + nn) im.size = (i + nn) := by omega
            obtain ⟨m6, hm6, e6⟩ := D5.ops
            clear hT0 hT6 HW hc6 ho6 dk
            generalize (writeM cp (im.extract i (i + nn))).1 = c6' at *
            cases hd6 : c6'.dead with
            | true =>
              rw [hd6] at HD6
              obtain ⟨h', hm⟩ := Mid.of (c1 := cp) (N := N + 64 + 64 * i) S6 (own_keep hrow hF6) D5 (fun _ => safe_staged hs im _ b0 b3) (safe_staged hs im _ b0 b3) (fun e => by rw [hd6] at e; cases e) (by omega) hlenG
              have hup : ∃ c' L' h', Mid B (N + 9000) M w6 k b g q c' run L' G h' := ⟨_, _, h', hm.S, hm.row, hm.on, hm.safe, hm.up, by have := hm.ops; omega, hm.len⟩
              go_wp2_with (go_at_call 22; refine HD6.mono ?_; rintro en w7 ⟨rfl, hw7⟩; have hw8 := hw7.symm; clear hw7; subst hw8)
              go_ret
              exact ⟨rfl, hup, hF6⟩
            | false =>
              rw [hd6] at HD6
              obtain ⟨U6, on6⟩ : Up c6' ∧ On c6'.cells (stagedH h im (i + nn)) := by
                rcases D5.fin with e | ⟨e, _⟩
                · exact e
                · rw [hd6] at e; cases e
              go_wp2_with (go_at_call 22; refine HD6.mono ?_; rintro en w7 ⟨rfl, hw7⟩; have hw8 := hw7.symm; clear hw7; subst hw8)
              go_roundw
              case rel => exact ⟨i + nn, c6', by omega, by go_num, by rw [hmin]; exact on6, U6, S6, P6, hF6, by omega⟩
              case measure => simp [intOf]; omega
        · have hltI : ¬ (i : Int) < im.size := by omega
          have hmi : min i im.size = im.size := by omega
          rw [hmi] at onp
          have hver := hI.ver
          have sh7 := shape_activate (c := cp) onp.load.1 onp.load.2
          rw [activate_h h im hne (by omega)] at sh7
          have HA := activate_any wr q b g cp run (by omega) S5.s.dv S5.hq onp.oks
          have dk := look_ship S5.s.hk
          go_wp2_with fail
          refine HA.mono ?_
          rintro en w7 ⟨rfl, hc7, ho7⟩
          obtain ⟨S7, F7⟩ := S5.chip hc7 ho7
          have P7 := ho7.heap Pr nP
          have HD7 := dead_any w7 b g _ S7.s.dv.chip
          obtain ⟨u0, u1, u2, u3, u4, u5, u6, uf⟩ := ship_cells S7.s.hk
          have hF7 := hFw.trans F7
          clear HA dk hc7 ho7
          by_cases hold : verB im < h.floor
          · rw [if_pos hold] at sh7
            obtain ⟨D7, _⟩ := sh7.did Upp onp
            have herr7 := sh7.err
            simp only at herr7 D7
            rw [herr7]
            clear sh7 herr7
            generalize (activM cp).1 = c7 at *
            cases hd7 : c7.dead with
            | true =>
              rw [hd7] at HD7
              obtain ⟨S8, F8⟩ := S7.log (L' := { L with of := im, bt := 0 }) (w' := (w7.setCell ⟨k, 3, none⟩ (.string im)).setCell ⟨k, 4, none⟩ (.int .i64 0)) (by rw [heap_setCell_at _ _ _ _ _ _ _ (heap_setCell_at _ _ _ _ _ _ _ S7.s.hk)]; rfl) (onlyK (onlyK (Only.refl _ _) 3 _) 4 _)
              have hF8 := hF7.trans F8
              obtain ⟨h', hm⟩ := Mid.of (c1 := cp) (N := N + 64 + 64 * i) S8 (own_keep hrow hF8) D7 (fun _ => safe_staged hs im _ (by show (0 : Int) ≤ 0; omega) (by show (0 : Int) ≤ 3; omega)) (safe_staged hs im _ (by show (0 : Int) ≤ 0; omega) (by show (0 : Int) ≤ 3; omega)) (fun e => by rw [hd7] at e; cases e) (by omega) hlenG
              have hup : ∃ c' L' h', Mid B (N + 9000) M ((w7.setCell ⟨k, 3, none⟩ (.string im)).setCell ⟨k, 4, none⟩ (.int .i64 0)) k b g q c' run L' G h' := ⟨_, _, h', hm.S, hm.row, hm.on, hm.safe, hm.up, by have := hm.ops; omega, hm.len⟩
              go_wp2_with (go_at_call 22; refine HD7.mono ?_; rintro en w8 ⟨rfl, hw8⟩; have hw9 := hw8.symm; clear hw8; subst hw9)
              go_ret
              exact ⟨rfl, hup, hF8⟩
            | false =>
              rw [hd7] at HD7
              have HLD := tload_any w7 im hI.lt
              rw [if_neg (by omega), (loaded_ver (by omega : 0 ≤ verB im)).1] at HLD
              go_wp2_with fail
              refine HD7.mono ?_
              rintro en w8 ⟨rfl, hw8⟩
              have hw9 := hw8.symm
              clear hw8
              subst hw9
              go_wp2_with fail
              refine HLD.mono ?_
              rintro en w9 ⟨rfl, hb9⟩
              have p1 : ∀ x, (w9.alloc x).cell? ⟨pb, 1, none⟩ = some (.int .i64 h.floor) := fun x => by rw [cell_of_heap (alloc_heap (below_heap hb9 P7) x)]; rfl
              have hfin : ∀ x, (∃ c' L' h', Mid B (N + 9000) M (w9.alloc x) k b g q c' run L' G h') ∧ FrS B w (w9.alloc x) := by
                intro x
                obtain ⟨S9, F9⟩ := S7.below (hb9.alloc hb9.size x)
                have hF9 := hF7.trans F9
                obtain ⟨h', hm⟩ := Mid.of (c1 := cp) (N := N + 64 + 64 * i) S9 (own_keep hrow hF9) D7 (fun _ => safe_staged hs im _ b0 b3) (safe_staged hs im _ b0 b3) (fun _ => ⟨hrn, fun e => absurd e hr2⟩) (by omega) hlenG
                exact ⟨⟨_, _, h', hm.S, hm.row, hm.on, hm.safe, hm.up, by have := hm.ops; omega, hm.len⟩, hF9⟩
              go_wp2
              go_ret
              exact ⟨by simp; omega, hfin _⟩
          · rw [if_neg hold] at sh7
            obtain ⟨D7, _⟩ := sh7.did Upp onp
            have herr7 := sh7.err
            simp only at herr7 D7
            rw [herr7]
            clear sh7 herr7
            generalize (activM cp).1 = c7 at *
            cases hd7 : c7.dead with
            | true =>
              rw [hd7] at HD7
              obtain ⟨S8, F8⟩ := S7.log (L' := { L with of := im, bt := 0 }) (w' := (w7.setCell ⟨k, 3, none⟩ (.string im)).setCell ⟨k, 4, none⟩ (.int .i64 0)) (by rw [heap_setCell_at _ _ _ _ _ _ _ (heap_setCell_at _ _ _ _ _ _ _ S7.s.hk)]; rfl) (onlyK (onlyK (Only.refl _ _) 3 _) 4 _)
              have hF8 := hF7.trans F8
              obtain ⟨h', hm⟩ := Mid.of (c1 := cp) (N := N + 64 + 64 * i) S8 (own_keep hrow hF8) D7 (fun _ => safe_staged hs im _ (by show (0 : Int) ≤ 0; omega) (by show (0 : Int) ≤ 3; omega)) (safe_trial hs im) (fun e => by rw [hd7] at e; cases e) (by omega) hlenG
              have hup : ∃ c' L' h', Mid B (N + 9000) M ((w7.setCell ⟨k, 3, none⟩ (.string im)).setCell ⟨k, 4, none⟩ (.int .i64 0)) k b g q c' run L' G h' := ⟨_, _, h', hm.S, hm.row, hm.on, hm.safe, hm.up, by have := hm.ops; omega, hm.len⟩
              go_wp2_with (go_at_call 22; refine HD7.mono ?_; rintro en w8 ⟨rfl, hw8⟩; have hw9 := hw8.symm; clear hw8; subst hw9)
              go_ret
              exact ⟨rfl, hup, hF8⟩
            | false =>
              rw [hd7] at HD7
              obtain ⟨S8, F8⟩ := S7.log (L' := { L with of := im, bt := 0 }) (w' := (w7.setCell ⟨k, 3, none⟩ (.string im)).setCell ⟨k, 4, none⟩ (.int .i64 0)) (by rw [heap_setCell_at _ _ _ _ _ _ _ (heap_setCell_at _ _ _ _ _ _ _ S7.s.hk)]; rfl) (onlyK (onlyK (Only.refl _ _) 3 _) 4 _)
              have hF8 := hF7.trans F8
              obtain ⟨h', hm⟩ := Mid.of (c1 := cp) (N := N + 64 + 64 * i) S8 (own_keep hrow hF8) D7 (fun e => by rw [hd7] at e; cases e) (safe_trial hs im) (fun _ => ⟨hrn, fun e => absurd e hr2⟩) (by omega) hlenG
              have hup : ∃ c' L' h', Mid B (N + 9000) M ((w7.setCell ⟨k, 3, none⟩ (.string im)).setCell ⟨k, 4, none⟩ (.int .i64 0)) k b g q c' run L' G h' := ⟨_, _, h', hm.S, hm.row, hm.on, hm.safe, hm.up, by have := hm.ops; omega, hm.len⟩
              go_wp2_with (go_at_call 22; refine HD7.mono ?_; rintro en w8 ⟨rfl, hw8⟩; have hw9 := hw8.symm; clear hw8; subst hw9)
              go_ret
              exact ⟨rfl, hup, hF8⟩
end Go.Proofs.YtcokahccbjdeaabDoor
