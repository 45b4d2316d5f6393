import Derived.Test.YtcokahccbjdeaabDoorAlC
namespace Go.Proofs.YtcokahccbjdeaabDoor
open Go.RowKit

theorem ver_minus : verB (tx []) = -1 := by
  have h1 := ver_none
  have h2 := ver_lo (tx []).data.toList
  unfold verB at *
  omega
set_option maxRecDepth 100000 in
set_option maxHeartbeats 1000000 in
theorem drops_any (w : World) (B N M k b g q : Nat) (c : ChipS) (run : Int) (L : Log) (G : List ByteArray) (h : HeldS) (o : StepS) (hok : o.ok) (hN : N ≤ 4611686018427300000) (A : Sea B N M w k b g q c run L G h) :
    Calls Tryd.prog 20 #[.pointer (some ⟨k, 0, none⟩), o.v] w fun e w' => e = .returned (.bool true) ∧ (∃ c' run' L' h', Mid B (N + 64) M w' k b g q c' run' L' G h') ∧ FrS B w w' := by
  obtain ⟨hl, hk⟩ := A.on.load
  obtain ⟨U, ucells, uops, _⟩ := arm_up A.live o
  have on1 : On (c.arm o).cells h := by rw [ucells]; exact A.on
  obtain ⟨sh, hrun⟩ := shape_drop on1.load.1 hk run
  obtain ⟨D, hmade⟩ := sh.did U on1
  have herr := sh.err
  simp only at D herr
  have hops := A.ops
  have s1 := safe_drop_same run A.safe
  have s2 : ¬ (h.trial.size = 0 ∧ h.size = 0) → Safe (RefS.drop ⟨true, h⟩ run).1.h G ⟨#[]⟩ L.bt L.fl := fun hn => safe_drop run A.safe A.safe.bt0 A.safe.bt3 hn
  have hcase : (verB h.trial < 0 ∧ h.size = 0 ∧ (RefS.drop ⟨true, h⟩ run).2.2 = 11 ∧ (RefS.drop ⟨true, h⟩ run).2.1 = run ∧ (RefS.drop ⟨true, h⟩ run).1.h = h) ∨
      (¬ (h.trial.size = 0 ∧ h.size = 0) ∧ (¬ verB h.trial < 0 ∨ (verB h.trial < 0 ∧ ¬ h.size = 0)) ∧ (RefS.drop ⟨true, h⟩ run).2.2 = 0 ∧ (RefS.drop ⟨true, h⟩ run).2.1 = (if run = 2 then 0 else run) ∧ (RefS.drop ⟨true, h⟩ run).1.h = ⟨h.good, h.floor, tx [], 0, 0, tx []⟩) := by
    unfold RefS.drop
    by_cases hn : h.trial.size = 0 ∧ h.size = 0
    · left
      rw [if_pos hn, (hk.noTrial hn.1).1]
      exact ⟨ver_none, hn.2, rfl, rfl, rfl⟩
    · right
      rw [if_neg hn]
      refine ⟨hn, ?_, rfl, rfl, rfl⟩
      by_cases ht : h.trial.size = 0
      · right
        rw [(hk.noTrial ht).1]
        exact ⟨ver_none, fun e => hn ⟨ht, e⟩⟩
      · left
        have t := (hk.onTrial ht).2.2.2
        have f := hk.fl
        omega
  generalize (RefS.drop ⟨true, h⟩ run).1 = r1 at *
  generalize (RefS.drop ⟨true, h⟩ run).2.1 = run1 at *
  generalize (RefS.drop ⟨true, h⟩ run).2.2 = e1 at *
  obtain ⟨md, h1⟩ := r1
  simp only at hmade s1 s2 D hcase
  have HST0 := fun wx (hb : Below w.heap.size w wx) => state_any wx q b g c run h (A.S.s.dv.below hb) (below_heap hb A.S.hq) hl
  have hb1 : ∀ x, Below w.heap.size w (w.alloc x) := fun x => (Below.refl _ _).alloc (Nat.le_refl _) x
  have hkA : ∀ x, (w.alloc x).cell? ⟨k, 1, none⟩ = some (.pointer (some ⟨q, 0, none⟩)) := fun x => (ship_cells (alloc_heap A.S.s.hk x)).2.1
  have hO0 := heap_alloc_new w (.cells o.cs 27)
  obtain ⟨lk, lb, lg, lB⟩ := A.S.s.lt
  have lq := (Array.getElem?_eq_some_iff.1 A.S.hq).1
  have HST0' : ∀ wx : World, Below w.heap.size w wx → Calls Tryd.prog 14 #[.pointer (some ⟨q, 0, none⟩)] wx fun e w' => e = .returned (.agg #[.int .i64 (verB h.good), .int .i64 h.floor, .int .i64 (verB h.trial), .int .i64 h.tries, .int .i64 h.size, .int .i64 (h.got.size : Int), .int .i64 run]) ∧ Below wx.heap.size wx w' := HST0
  clear HST0
  have hsh := A.S
  have hrow := A.row
  have hsafe := A.safe
  have hrn := A.rn
  have hlenG := A.len
  obtain ⟨kd, a, ct, tn⟩ := o
  simp only [StepS.v, StepS.cs] at *
  go_enter Tryd.func20, Tryd.ntmps20
  go_wp2_with fail
  refine (HST0' _ (hb1 _)).mono ?_
  rintro en w1 ⟨rfl, hb1'⟩
  have hbw1 := (hb1 _).trans (hb1'.mono (by simp))
  have O1 : ∀ x, (w1.alloc x).heap[w.heap.size]? = some (.cells (StepS.cs ⟨kd, a, ct, tn⟩) 27 (0, 0)) := fun x => alloc_heap (below_heap hb1' hO0) x
  have o0 : ∀ x, (w1.alloc x).cell? ⟨w.heap.size, 0, none⟩ = some (.int .i64 kd) := fun x => (stepS_cells (O1 x)).1
  have o1 : ∀ x, (w1.alloc x).cell? ⟨w.heap.size, 1, none⟩ = some (.int .i64 a) := fun x => (stepS_cells (O1 x)).2.1
  have o2 : ∀ x, (w1.alloc x).cell? ⟨w.heap.size, 2, none⟩ = some (.int .i64 ct) := fun x => (stepS_cells (O1 x)).2.2.1
  have o3 : ∀ x, (w1.alloc x).cell? ⟨w.heap.size, 3, none⟩ = some (.string tn) := fun x => (stepS_cells (O1 x)).2.2.2.1
  go_wp2_with fail
  have P2 := heap_alloc_new w1 (.cells #[.int .i64 (verB h.good), .int .i64 h.floor, .int .i64 (verB h.trial), .int .i64 h.tries, .int .i64 h.size, .int .i64 (h.got.size : Int), .int .i64 run] 44)
  obtain ⟨S2, F2⟩ := hsh.below (hbw1.alloc hbw1.size (.cells #[.int .i64 (verB h.good), .int .i64 h.floor, .int .i64 (verB h.trial), .int .i64 h.tries, .int .i64 h.size, .int .i64 (h.got.size : Int), .int .i64 run] 44))
  have hp : w.heap.size ≤ w1.heap.size := hbw1.size
  generalize w1.alloc (.cells #[.int .i64 (verB h.good), .int .i64 h.floor, .int .i64 (verB h.trial), .int .i64 h.tries, .int .i64 h.size, .int .i64 (h.got.size : Int), .int .i64 run] 44) = w2 at *
  have HAR := armedK_any w2 k b g c _ L ⟨kd, a, ct, tn⟩ hok S2.s.hk S2.s.dv.chip
  simp only [StepS.v] at HAR
  refine HAR.mono ?_
  rintro en w3 ⟨rfl, hc3, ho3⟩
  obtain ⟨S3, F3⟩ := S2.chip hc3 ho3
  have P3 := ho3.heap P2 (by omega)
  have d3 := look_ship S3.s.hk
  have htwo0 := A.two
  go_wp2_with fail
  refine (drop_any w3 q b g _ run (by omega) S3.s.dv S3.hq on1.oks).mono ?_
  rintro en w4 ⟨rfl, hL4⟩
  rw [herr]
  rw [hrun] at hL4
  obtain ⟨S4, F4⟩ := S3.left hL4
  have P4 := hL4.only.heap P3 (by omega)
  have d4 := (ship_cells S4.s.hk).1
  have HD := dead_any w4 b g _ S4.s.dv.chip
  have hop2 : (c.arm ⟨kd, a, ct, tn⟩).ops ≤ (N : Int) := by omega
  have hFr := F2.trans (F3.trans F4)
  clear d3 HAR o0 o1 o2 o3
  cases hd : (dropM (c.arm ⟨kd, a, ct, tn⟩) run).1.dead with
  | true =>
    rw [hd] at HD
    have hMid := Mid.of (c1 := c.arm ⟨kd, a, ct, tn⟩) S4 (own_keep hrow hFr) D (fun _ => hsafe) s1 (fun e => by rw [hd] at e; cases e) hop2 hlenG
    go_wp2_with (go_at_call 22; refine HD.mono ?_; rintro en w5 ⟨rfl, hw5⟩; have hw6 := hw5.symm; clear hw5; subst hw6)
    go_ret
    exact ⟨rfl, ⟨_, _, _, hMid⟩, hFr⟩
  | false =>
    rw [hd] at HD
    have on4 := Up.on D hd
    obtain ⟨u0, u1, u2, u3, u4, u5, u6, uf⟩ := ship_cells S4.s.hk
    rw [hrn] at u5
    have p2 : w4.cell? ⟨w1.heap.size, 2, none⟩ = some (.int .i64 (verB h.trial)) := by rw [cell_of_heap P4]; rfl
    have p4 : w4.cell? ⟨w1.heap.size, 4, none⟩ = some (.int .i64 h.size) := by rw [cell_of_heap P4]; rfl
    go_wp2_with fail
    refine HD.mono ?_
    rintro en w5 ⟨rfl, hw5⟩
    have hw6 := hw5.symm
    clear hw5
    subst hw6
    rcases hcase with ⟨x1, x2, x3, x4, x5⟩ | ⟨x0, x1, x3, x4, x5⟩
    · have hMid := Mid.of (c1 := c.arm ⟨kd, a, ct, tn⟩) S4 (own_keep hrow hFr) D (fun _ => hsafe) s1 (fun _ => ⟨by rw [x4]; exact hrn, by rw [x4, x5]; exact htwo0⟩) hop2 hlenG
      subst x3
      have x2b : (h.size == 0) = true := by simp [x2]
      clear s2 u0 u1 u2 u3 u4 u5 u6 uf
      go_wp2
      go_ret
      exact ⟨rfl, ⟨_, _, _, hMid⟩, hFr⟩
    · subst x3
      have hst : ∀ r : Int, (stateM h1 r).v = .agg #[.int .i64 (verB h.good), .int .i64 h.floor, .int .i64 (-1), .int .i64 0, .int .i64 0, .int .i64 0, .int .i64 r] := by
        intro r; rw [x5]; unfold stateM StateS.v; simp only [ver_minus]; rfl
      have hok1 : ∀ {wx : World} {Lx : Log}, Ship B wx k b g q (dropM (c.arm ⟨kd, a, ct, tn⟩) run).1 run1 Lx → Calls Tryd.prog 14 #[.pointer (some ⟨q, 0, none⟩)] wx fun e w' => e = .returned (.agg #[.int .i64 (verB h.good), .int .i64 h.floor, .int .i64 (-1), .int .i64 0, .int .i64 0, .int .i64 0, .int .i64 run1]) ∧ Below wx.heap.size wx w' := by
        intro wx Lx Sx
        have := state_any wx q b g _ run1 h1 Sx.s.dv Sx.hq on4.load.1
        rw [hst] at this
        exact this
      have s3 := s2 x0
      clear s2
      by_cases hr : run = 2
      · rw [if_pos hr] at x4
        have hk5 : ((w4.setCell ⟨k, 5, none⟩ (.int .i64 0)).setCell ⟨k, 3, none⟩ (.string ⟨#[]⟩)).heap[k]? = some (.cells (shipC b (.pointer (some ⟨q, 0, none⟩)) { L with of := ⟨#[]⟩, rn := 0 }) 32 (0, 0)) := by
          rw [heap_setCell_at _ _ _ _ _ _ _ (heap_setCell_at _ _ _ _ _ _ _ S4.s.hk)]; rfl
        obtain ⟨S5, F5⟩ := S4.log hk5 (onlyK (onlyK (Only.refl _ _) 5 _) 3 _)
        have HS5 := hok1 S5
        have d5 := look_ship S5.s.hk
        have hrb : (run == 2) = true := by simp [hr]
        have hfin : ∀ wx, Below ((w4.setCell ⟨k, 5, none⟩ (.int .i64 0)).setCell ⟨k, 3, none⟩ (.string ⟨#[]⟩)).heap.size ((w4.setCell ⟨k, 5, none⟩ (.int .i64 0)).setCell ⟨k, 3, none⟩ (.string ⟨#[]⟩)) wx → (∃ c' run' L' h', Mid B (N + 64) M wx k b g q c' run' L' G h') ∧ FrS B w wx := by
          intro wx hx
          obtain ⟨S6, F6⟩ := S5.below hx
          have hF := hFr.trans (F5.trans F6)
          exact ⟨⟨_, _, _, Mid.of (c1 := c.arm ⟨kd, a, ct, tn⟩) (h0 := h) S6 (own_keep hrow hF) D (fun e => by rw [hd] at e; cases e) s3 (fun _ => ⟨x4.symm, fun e => by omega⟩) hop2 hlenG⟩, hF⟩
        rcases x1 with y | ⟨y, y2⟩
        · go_wp2_with (go_at_call 14; refine HS5.mono ?_; rintro en w6 ⟨rfl, hb6⟩)
          go_ret
          exact ⟨rfl, hfin _ (hb6.alloc hb6.size _)⟩
        · have y3 : (h.size == 0) = false := by simp [y2]
          go_wp2_with (go_at_call 14; refine HS5.mono ?_; rintro en w6 ⟨rfl, hb6⟩)
          go_ret
          exact ⟨rfl, hfin _ (hb6.alloc hb6.size _)⟩
      · rw [if_neg hr] at x4
        have hk5 : (w4.setCell ⟨k, 3, none⟩ (.string ⟨#[]⟩)).heap[k]? = some (.cells (shipC b (.pointer (some ⟨q, 0, none⟩)) { L with of := ⟨#[]⟩ }) 32 (0, 0)) := by
          rw [heap_setCell_at _ _ _ _ _ _ _ S4.s.hk]; rfl
        obtain ⟨S5, F5⟩ := S4.log hk5 (onlyK (Only.refl _ _) 3 _)
        have HS5 := hok1 S5
        have d5 := look_ship S5.s.hk
        have hrb : (run == 2) = false := by simp [hr]
        have hfin : ∀ wx, Below (w4.setCell ⟨k, 3, none⟩ (.string ⟨#[]⟩)).heap.size (w4.setCell ⟨k, 3, none⟩ (.string ⟨#[]⟩)) wx → (∃ c' run' L' h', Mid B (N + 64) M wx k b g q c' run' L' G h') ∧ FrS B w wx := by
          intro wx hx
          obtain ⟨S6, F6⟩ := S5.below hx
          have hF := hFr.trans (F5.trans F6)
          exact ⟨⟨_, _, _, Mid.of (c1 := c.arm ⟨kd, a, ct, tn⟩) (h0 := h) S6 (own_keep hrow hF) D (fun e => by rw [hd] at e; cases e) s3 (fun _ => ⟨by rw [x4]; exact hrn, fun e => absurd (x4 ▸ e) hr⟩) hop2 hlenG⟩, hF⟩
        rcases x1 with y | ⟨y, y2⟩
        · go_wp2_with (go_at_call 14; refine HS5.mono ?_; rintro en w6 ⟨rfl, hb6⟩)
          go_ret
          exact ⟨rfl, hfin _ (hb6.alloc hb6.size _)⟩
        · have y3 : (h.size == 0) = false := by simp [y2]
          go_wp2_with (go_at_call 14; refine HS5.mono ?_; rintro en w6 ⟨rfl, hb6⟩)
          go_ret
          exact ⟨rfl, hfin _ (hb6.alloc hb6.size _)⟩
end Go.Proofs.YtcokahccbjdeaabDoor
