import Derived.Test.YtcokahccbjdeaabDoorAlB
namespace Go.Proofs.YtcokahccbjdeaabDoor
open Go.RowKit

/-- Where nothing is on trial the law's offer and count are free. -/
theorem Safe.idle {h h1 : HeldS} {G : List ByteArray} {of of' : ByteArray} {bt bt' fl : Int} (s : Safe h G of bt fl) (hg : h1.good = h.good) (hf : h.floor ≤ h1.floor) (ht : h1.trial.size = 0) (b0 : 0 ≤ bt') (b3 : bt' ≤ 3) : Safe h1 G of' bt' fl :=
  ⟨by rw [hg]; exact s.good, s.imgs, fun e => absurd ht e, b0, b3, by have := s.floor; omega⟩
theorem safe_raise {h : HeldS} {G : List ByteArray} {of : ByteArray} {bt fl : Int} (s : Safe h G of bt fl) (k : h.ok) : Safe (RefS.raise ⟨true, h⟩).1.h G of bt fl := by
  unfold RefS.raise
  by_cases ht : h.trial.size ≠ 0
  · rw [if_pos ht]; exact s
  · rw [if_neg ht]
    have i := k.img
    refine s.idle rfl ?_ (by simp only; omega) s.bt0 s.bt3
    simp only
    rw [if_neg (by omega)]
    exact i.1
theorem safe_drop {h : HeldS} {G : List ByteArray} {of of' : ByteArray} {bt bt' fl : Int} (run : Int) (s : Safe h G of bt fl) (b0 : 0 ≤ bt') (b3 : bt' ≤ 3) (hn : ¬ (h.trial.size = 0 ∧ h.size = 0)) : Safe (RefS.drop ⟨true, h⟩ run).1.h G of' bt' fl := by
  unfold RefS.drop
  rw [if_neg hn]
  exact s.idle rfl (Int.le_refl _) rfl b0 b3
theorem safe_drop_same {h : HeldS} {G : List ByteArray} {of : ByteArray} {bt fl : Int} (run : Int) (s : Safe h G of bt fl) : Safe (RefS.drop ⟨true, h⟩ run).1.h G of bt fl := by
  by_cases hn : h.trial.size = 0 ∧ h.size = 0
  · unfold RefS.drop; rw [if_pos hn]; exact s
  · exact safe_drop run s s.bt0 s.bt3 hn
/-- A call's end in a step. -/
theorem Mid.of {B N M : Nat} {w : World} {k b g q : Nat} {c c1 : ChipS} {run : Int} {L : Log} {G : List ByteArray} {h0 h1 : HeldS} (S : Ship B w k b g q c run L) (row : w.ownsRow B 9 1 L.gs G.length (rowV G)) (D : Did c1 h0 c h1)
    (s0 : c.dead = true → Safe h0 G L.of L.bt L.fl) (s1 : Safe h1 G L.of L.bt L.fl) (up : c.dead = false → L.rn = run ∧ (run = 2 → h1.trial.size ≠ 0)) (ho : c1.ops ≤ (N : Int)) (hl : G.length ≤ M) : ∃ h', Mid B (N + 64) M w k b g q c run L G h' := by
  obtain ⟨m, hm, e⟩ := D.ops
  rcases D.fin with ⟨U, o⟩ | ⟨dd, o | o⟩
  · exact ⟨h1, S, row, o, s1, up, by omega, hl⟩
  · exact ⟨h1, S, row, o, s1, (fun e => by rw [dd] at e; cases e), by omega, hl⟩
  · exact ⟨h0, S, row, o, s0 dd, (fun e => by rw [dd] at e; cases e), by omega, hl⟩
theorem On.oks {cells : List UInt8} {h : HeldS} (o : On cells h) : ∀ x, loadM cells = some x → x.ok := by
  obtain ⟨a, b⟩ := o.load
  intro x hx
  rw [a] at hx
  simp only [Option.some.injEq] at hx
  rw [← hx]; exact b
theorem Up.on {c c' : ChipS} {h0 h1 : HeldS} (D : Did c h0 c' h1) (hd : c'.dead = false) : On c'.cells h1 := by
  rcases D.fin with ⟨_, o⟩ | ⟨e, _⟩
  · exact o
  · rw [hd] at e; cases e
set_option maxRecDepth 100000 in
set_option maxHeartbeats 1000000 in
theorem raises_any (w : World) (B N M k b g q : Nat) (c : ChipS) (run : Int) (L : Log) (G : List ByteArray) (h : HeldS) (o : StepS) (hok : o.ok) (hN : N ≤ 4611686018427300000) (A : Sea B N M w k b g q c run L G h) :
    Calls Tryd.prog 19 #[.pointer (some ⟨k, 0, none⟩), o.v] w fun e w' => e = .returned (.bool true) ∧ (∃ c' h', Mid B (N + 64) M w' k b g q c' run L G h') ∧ FrS B w w' := by
  obtain ⟨hl, hk⟩ := A.on.load
  obtain ⟨U, ucells, uops, _⟩ := arm_up A.live o
  have on1 : On (c.arm o).cells h := by rw [ucells]; exact A.on
  have sh := shape_raise on1.load.1 hk
  obtain ⟨D, hmade⟩ := sh.did U on1
  have herr := sh.err
  have hops := A.ops
  have s1 := safe_raise A.safe hk
  have htwo : run = 2 → (RefS.raise ⟨true, h⟩).1.h.trial.size ≠ 0 := by
    intro e
    have ht := A.two e
    unfold RefS.raise
    rw [if_pos ht]; exact ht
  have hcase : (0 ≤ verB h.trial ∧ (RefS.raise ⟨true, h⟩).2 = 10) ∨ (¬ 0 ≤ verB h.trial ∧ (RefS.raise ⟨true, h⟩).2 = 0 ∧ (RefS.raise ⟨true, h⟩).1.h.floor = verB (RefS.raise ⟨true, h⟩).1.h.good) := by
    unfold RefS.raise
    by_cases ht : h.trial.size ≠ 0
    · left
      have t := (hk.onTrial ht).2.2.2
      have f := hk.fl
      exact ⟨by omega, by rw [if_pos ht]⟩
    · right
      have e := (hk.noTrial (by omega)).1
      have i := hk.img
      refine ⟨?_, ?_, ?_⟩
      · rw [e]; have := ver_none; omega
      · rw [if_neg ht]
      · rw [if_neg ht]; simp only; rw [if_neg (by omega)]
  generalize (RefS.raise ⟨true, h⟩).1 = r1 at *
  generalize (RefS.raise ⟨true, h⟩).2 = e1 at *
  obtain ⟨md, h1⟩ := r1
  simp only at hmade s1 D htwo hcase
  have HST0 := fun wx (hb : Below w.heap.size w wx) => state_any wx q b g c run h (A.S.s.dv.below hb) (below_heap hb A.S.hq) hl
  have hb1 : ∀ x, Below w.heap.size w (w.alloc x) := fun x => (Below.refl _ _).alloc (Nat.le_refl _) x
  have hkA : ∀ x, (w.alloc x).cell? ⟨k, 1, none⟩ = some (.pointer (some ⟨q, 0, none⟩)) := fun x => (ship_cells (alloc_heap A.S.s.hk x)).2.1
  have hO0 := heap_alloc_new w (.cells o.cs 27)
  obtain ⟨lk, lb, lg, lB⟩ := A.S.s.lt
  have lq := (Array.getElem?_eq_some_iff.1 A.S.hq).1
  have HST0' : ∀ wx : World, Below w.heap.size w wx → Calls Tryd.prog 14 #[.pointer (some ⟨q, 0, none⟩)] wx fun e w' => e = .returned (.agg #[.int .i64 (verB h.good), .int .i64 h.floor, .int .i64 (verB h.trial), .int .i64 h.tries, .int .i64 h.size, .int .i64 (h.got.size : Int), .int .i64 run]) ∧ Below wx.heap.size wx w' := HST0
  clear HST0
  have hsh := A.S
  have hrow := A.row
  have hsafe := A.safe
  have hrn := A.rn
  have hlenG := A.len
  obtain ⟨kd, a, ct, tn⟩ := o
  simp only [StepS.v, StepS.cs] at *
  go_enter Tryd.func19, Tryd.ntmps19
  go_wp2_with fail
  refine (HST0' _ (hb1 _)).mono ?_
  rintro en w1 ⟨rfl, hb1'⟩
  have hbw1 := (hb1 _).trans (hb1'.mono (by simp))
  have O1 : ∀ x, (w1.alloc x).heap[w.heap.size]? = some (.cells (StepS.cs ⟨kd, a, ct, tn⟩) 27 (0, 0)) := fun x => alloc_heap (below_heap hb1' hO0) x
  have o0 : ∀ x, (w1.alloc x).cell? ⟨w.heap.size, 0, none⟩ = some (.int .i64 kd) := fun x => (stepS_cells (O1 x)).1
  have o1 : ∀ x, (w1.alloc x).cell? ⟨w.heap.size, 1, none⟩ = some (.int .i64 a) := fun x => (stepS_cells (O1 x)).2.1
  have o2 : ∀ x, (w1.alloc x).cell? ⟨w.heap.size, 2, none⟩ = some (.int .i64 ct) := fun x => (stepS_cells (O1 x)).2.2.1
  have o3 : ∀ x, (w1.alloc x).cell? ⟨w.heap.size, 3, none⟩ = some (.string tn) := fun x => (stepS_cells (O1 x)).2.2.2.1
  go_wp2_with fail
  have P2 := heap_alloc_new w1 (.cells #[.int .i64 (verB h.good), .int .i64 h.floor, .int .i64 (verB h.trial), .int .i64 h.tries, .int .i64 h.size, .int .i64 (h.got.size : Int), .int .i64 run] 44)
  obtain ⟨S2, F2⟩ := hsh.below (hbw1.alloc hbw1.size (.cells #[.int .i64 (verB h.good), .int .i64 h.floor, .int .i64 (verB h.trial), .int .i64 h.tries, .int .i64 h.size, .int .i64 (h.got.size : Int), .int .i64 run] 44))
  have hp : w.heap.size ≤ w1.heap.size := hbw1.size
  generalize w1.alloc (.cells #[.int .i64 (verB h.good), .int .i64 h.floor, .int .i64 (verB h.trial), .int .i64 h.tries, .int .i64 h.size, .int .i64 (h.got.size : Int), .int .i64 run] 44) = w2 at *
  have HAR := armedK_any w2 k b g c _ L ⟨kd, a, ct, tn⟩ hok S2.s.hk S2.s.dv.chip
  simp only [StepS.v] at HAR
  refine HAR.mono ?_
  rintro en w3 ⟨rfl, hc3, ho3⟩
  obtain ⟨S3, F3⟩ := S2.chip hc3 ho3
  have P3 := ho3.heap P2 (by omega)
  have d3 := look_ship S3.s.hk
  go_wp2_with fail
  refine (raise_any w3 q b g _ run (by omega) S3.s.dv S3.hq on1.oks).mono ?_
  rintro en w4 ⟨rfl, hL4⟩
  rw [herr]
  obtain ⟨S4, F4⟩ := S3.left hL4
  have P4 := hL4.only.heap P3 (by omega)
  have d4 := (ship_cells S4.s.hk).1
  have d41 := look_ship S4.s.hk
  have HD := dead_any w4 b g _ S4.s.dv.chip
  have hop2 : (c.arm ⟨kd, a, ct, tn⟩).ops ≤ (N : Int) := by omega
  have hFr := F2.trans (F3.trans F4)
  have hMid := Mid.of S4 (own_keep hrow hFr) D (fun _ => hsafe) s1 (fun _ => ⟨hrn, htwo⟩) hop2 hlenG
  clear d3 HAR o0 o1 o2 o3
  cases hd : (raiseM (c.arm ⟨kd, a, ct, tn⟩)).1.dead with
  | true =>
    rw [hd] at HD
    go_wp2_with (go_at_call 22; refine HD.mono ?_; rintro en w5 ⟨rfl, hw5⟩; have hw6 := hw5.symm; clear hw5; subst hw6)
    go_ret
    exact ⟨rfl, ⟨_, hMid⟩, hFr⟩
  | false =>
    rw [hd] at HD
    have on4 := Up.on D hd
    have HST4 : Calls Tryd.prog 14 #[.pointer (some ⟨q, 0, none⟩)] w4 fun e w' => e = .returned (.agg #[.int .i64 (verB h1.good), .int .i64 h1.floor, .int .i64 (verB h1.trial), .int .i64 h1.tries, .int .i64 h1.size, .int .i64 (h1.got.size : Int), .int .i64 run]) ∧ Below w4.heap.size w4 w' := state_any w4 q b g _ run h1 S4.s.dv S4.hq on4.load.1
    go_wp2_with fail
    refine HD.mono ?_
    rintro en w5 ⟨rfl, hw5⟩
    have hw6 := hw5.symm
    clear hw5
    subst hw6
    go_wp2_with fail
    refine HST4.mono ?_
    rintro en w6 ⟨rfl, hb6⟩
    have P6 := below_heap hb6 P4
    have p2 : ∀ x, (w6.alloc x).cell? ⟨w1.heap.size, 2, none⟩ = some (.int .i64 (verB h.trial)) := fun x => by rw [cell_of_heap (alloc_heap P6 x)]; rfl
    have hfin : ∀ x, (∃ h', Mid B (N + 64) M (w6.alloc x) k b g q (raiseM (c.arm ⟨kd, a, ct, tn⟩)).1 run L G h') ∧ FrS B w (w6.alloc x) := by
      intro x
      obtain ⟨S7, F7⟩ := S4.below (hb6.alloc hb6.size x)
      exact ⟨Mid.of S7 (own_keep hrow (hFr.trans F7)) D (fun _ => hsafe) s1 (fun _ => ⟨hrn, htwo⟩) hop2 hlenG, hFr.trans F7⟩
    clear hMid
    rcases hcase with ⟨x1, x2⟩ | ⟨x1, x2, x3⟩
    · subst x2
      go_wp2
      go_ret
      exact ⟨rfl, ⟨_, (hfin _).1⟩, (hfin _).2⟩
    · subst x2
      go_wp2
      go_ret
      exact ⟨by simp, ⟨_, (hfin _).1⟩, (hfin _).2⟩
end Go.Proofs.YtcokahccbjdeaabDoor
