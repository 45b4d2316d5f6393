import Derived.Test.YtcokahccbjdeaabDoorAlE
namespace Go.Proofs.YtcokahccbjdeaabDoor
open Go.RowKit

theorem safe_boot {h : HeldS} {G : List ByteArray} {of : ByteArray} {bt fl : Int} (s : Safe h G of bt fl) : Safe (RefS.boot ⟨true, h⟩).1.h G of bt fl := by
  unfold RefS.boot
  by_cases ht : h.trial.size ≠ 0 ∧ 0 < h.tries
  · rw [if_pos ht]
    refine ⟨s.good, s.imgs, fun e => ?_, s.bt0, s.bt3, s.floor⟩
    obtain ⟨e1, e2⟩ := s.trial ht.1
    exact ⟨e1, by show bt + (h.tries - 1) ≤ 3; omega⟩
  · rw [if_neg ht]
    exact s.idle rfl (Int.le_refl _) rfl s.bt0 s.bt3
theorem jumpC_cells {w : World} {g : Nat} {t : Bool} {a b : Int} {s : ByteArray} (H : w.heap[g]? = some (.cells #[.bool t, .int .i64 a, .int .i64 b, .string s] 54 (0, 0))) :
    w.cell? ⟨g, 0, none⟩ = some (.bool t) ∧ w.cell? ⟨g, 1, none⟩ = some (.int .i64 a) ∧ w.cell? ⟨g, 2, none⟩ = some (.int .i64 b) ∧ w.cell? ⟨g, 3, none⟩ = some (.string s) ∧ (∀ o, w.frozen? ⟨g, o, none⟩ = false) := by
  refine ⟨?_, ?_, ?_, ?_, fun o => free_of_heap H⟩ <;> (rw [cell_of_heap H]; rfl)
theorem own_cell {w : World} {B : Nat} {v : Value} {G : List ByteArray} (h : w.ownsRow B 9 1 v G.length (rowV G)) (hn : 0 < G.length) : ∃ r cap, v = .slice (some ⟨r, 0, none⟩) G.length cap ∧ r < w.heap.size ∧ G.length ≤ cap ∧ ∀ i (hi : i < G.length), w.cell? ⟨r, i, none⟩ = some (.string G[i]) := by
  rcases h.2 with ⟨_, e⟩ | ⟨g, cap, cur, e1, _, e3, e4, _, _, e7⟩
  · omega
  · refine ⟨g, cap, e1, (Array.getElem?_eq_some_iff.1 e3).1, e4, fun i hi => ?_⟩
    rw [cell_of_heap e3]
    have hx : (cur.toList.take (G.length * 1))[i]? = some (.string G[i]) := by
      rw [e7]; unfold rowV; simp [hi]
    rw [List.getElem?_take, if_pos (by omega), Array.getElem?_toList] at hx
    exact hx
set_option maxRecDepth 100000 in
set_option maxHeartbeats 2000000 in
theorem bootK_any (w : World) (B N M k b g q : Nat) (c : ChipS) (run : Int) (L : Log) (G : List ByteArray) (h : HeldS) (o : StepS) (hok : o.ok) (hN : N ≤ 4611686018427300000) (hM : M < 8000000000000) (A : Sea B N M w k b g q c run L G h) :
    Calls Tryd.prog 7 #[.pointer (some ⟨k, 0, none⟩), o.v] w fun e w' => e = .returned (.bool true) ∧ (∃ c' run' L' G' h', Mid B (N + 64) M w' k b g q c' run' L' G' h' ∧ (o.cut < 0 → c'.dead = false ∧ c'.armed = false ∧ h' = (RefS.boot ⟨true, h⟩).1.h ∧ run' = (RefS.boot ⟨true, h⟩).2)) ∧ FrS B w w' := by
  obtain ⟨hl, hk⟩ := A.on.load
  obtain ⟨U, ucells, uops, ucalm⟩ := arm_up A.live o
  have on1 : On (c.arm o).cells h := by rw [ucells]; exact A.on
  obtain ⟨sh, e4, e5, e6⟩ := shape_boot on1.load.1 hk run
  obtain ⟨D, hmade⟩ := sh.did U on1
  simp only at D
  have hcalm : o.cut < 0 → (bootM (c.arm o) run).1.dead = false ∧ (bootM (c.arm o) run).1.armed = false := fun e => D.calm (by rw [ucalm e]; exact A.live.armed)
  have hops := A.ops
  have hb1 : ∀ x, Below w.heap.size w (w.alloc x) := fun x => (Below.refl _ _).alloc (Nat.le_refl _) x
  have hrow := A.row
  have hs := A.safe
  have hlenG := A.len
  have ss := safe_boot hs
  obtain ⟨S2, F2⟩ := A.S.below (hb1 (.cells o.cs 27))
  have HB := fun wx (Sx : Ship B wx k b g q (c.arm o) run L) => boot_any wx q b g _ run (by omega) Sx.s.dv Sx.hq on1.oks
  have hop2 : (c.arm o).ops ≤ (N : Int) := by omega
  have hend : ∀ {wx : World} {L' : Log} {G' : List ByteArray}, Ship B wx k b g q (bootM (c.arm o) run).1 (RefS.boot ⟨true, h⟩).2 L' → wx.ownsRow B 9 1 L'.gs G'.length (rowV G') → (bootM (c.arm o) run).1.dead = false → Safe (RefS.boot ⟨true, h⟩).1.h G' L'.of L'.bt L'.fl → (L'.rn = (RefS.boot ⟨true, h⟩).2) → ((RefS.boot ⟨true, h⟩).2 = 2 → (RefS.boot ⟨true, h⟩).1.h.trial.size ≠ 0) → G'.length ≤ M →
      ∃ c' run' L' G' h', Mid B (N + 64) M wx k b g q c' run' L' G' h' ∧ (o.cut < 0 → c'.dead = false ∧ c'.armed = false ∧ h' = (RefS.boot ⟨true, h⟩).1.h ∧ run' = (RefS.boot ⟨true, h⟩).2) := by
    intro wx L' G' S r hd sf rn two hl
    obtain ⟨m, hm, e⟩ := D.ops
    exact ⟨_, _, L', G', _, ⟨S, r, Up.on D hd, sf, fun _ => ⟨rn, two⟩, by omega, hl⟩, fun hc => ⟨hd, (hcalm hc).2, rfl, rfl⟩⟩
  have hdeadend : ∀ {wx : World}, Ship B wx k b g q (bootM (c.arm o) run).1 (RefS.boot ⟨true, h⟩).2 L → wx.ownsRow B 9 1 L.gs G.length (rowV G) → (bootM (c.arm o) run).1.dead = true →
      ∃ c' run' L' G' h', Mid B (N + 64) M wx k b g q c' run' L' G' h' ∧ (o.cut < 0 → c'.dead = false ∧ c'.armed = false ∧ h' = (RefS.boot ⟨true, h⟩).1.h ∧ run' = (RefS.boot ⟨true, h⟩).2) := by
    intro wx S r hd
    obtain ⟨h', hm⟩ := Mid.of (c1 := c.arm o) S r D (fun _ => hs) ss (fun e => by rw [hd] at e; cases e) hop2 hlenG
    exact ⟨_, _, _, _, h', hm, fun hc => by rw [(hcalm hc).1] at hd; cases hd⟩
  clear ucalm hcalm
  by_cases hT : h.trial.size ≠ 0 ∧ 0 < h.tries
  · have hbt : (RefS.boot ⟨true, h⟩).2 = 2 := by unfold RefS.boot; rw [if_pos hT]
    have hbh : (RefS.boot ⟨true, h⟩).1.h = { h with tries := h.tries - 1 } := by unfold RefS.boot; rw [if_pos hT]
    obtain ⟨hof, hb3⟩ := hs.trial hT.1
    rw [hbt] at e4 e5 e6
    simp only [if_true] at e6
    rw [hbt, hbh] at hend
    rw [hbt, hbh] at hdeadend
    rw [hbt, hbh]
    have hon := hk.onTrial hT.1
    have hbh2 := hk.behind
    have hfl := hk.fl
    have hne := ne_empty (by rw [← hof]; exact hT.1 : ¬ L.of.size = 0)
    have ss2 : Safe { h with tries := h.tries - 1 } G L.of (L.bt + 1) L.fl := ⟨hs.good, hs.imgs, fun _ => ⟨hof, by show L.bt + 1 + (h.tries - 1) ≤ 3; omega⟩, by have := hs.bt0; omega, by omega, hs.floor⟩
    rw [e4, e5, e6, hof] at HB
    have HSH := fun wx => shows_any wx true (loadedB L.of).1 (loadedB L.of).2.1 (loadedB L.of).2.2 L.of (by rw [← hof]; omega) (by rw [← hof]; omega)
    have hdd : decide (loadedB L.of = ((loadedB L.of).1, (loadedB L.of).2.1, (loadedB L.of).2.2)) = true := by simp
    rw [hdd] at HSH
    have b0 := hs.bt0
    simp only [jumpV] at HB
    generalize loadedB L.of = lo at *
    obtain ⟨la, lc, ld⟩ := lo
    simp only at *
    obtain ⟨kd, a, ct, tn⟩ := o
    simp only [StepS.v, StepS.cs] at *
    go_enter Tryd.func7, Tryd.ntmps7
    go_wp2_with fail
    generalize w.alloc (.cells #[.int .i64 kd, .int .i64 a, .int .i64 ct, .string tn] 27) = w2 at *
    have HAR := armedK_any w2 k b g c _ L ⟨kd, a, ct, tn⟩ hok S2.s.hk S2.s.dv.chip
    simp only [StepS.v] at HAR
    refine HAR.mono ?_
    rintro en w3 ⟨rfl, hc3, ho3⟩
    obtain ⟨S3, F3⟩ := S2.chip hc3 ho3
    have d3 := look_ship S3.s.hk
    go_wp2_with fail
    refine (HB w3 S3).mono ?_
    rintro en w4 ⟨rfl, hL4⟩
    obtain ⟨S4, F4⟩ := S3.left hL4
    have hJ := heap_alloc_new w4 (.cells #[.bool true, .int .i64 la, .int .i64 lc, .string ld] 54)
    obtain ⟨S5, F5⟩ := S4.below ((Below.refl _ _).alloc (Nat.le_refl _) (.cells #[.bool true, .int .i64 la, .int .i64 lc, .string ld] 54))
    have c4 : ∀ x, (w4.alloc x).cell? ⟨k, 0, none⟩ = some (.pointer (some ⟨b, 0, none⟩)) := fun x => (ship_cells (alloc_heap S4.s.hk x)).1
    clear d3 HAR HB
    go_wp2_with fail
    generalize w4.alloc (.cells #[.bool true, .int .i64 la, .int .i64 lc, .string ld] 54) = w5 at *
    clear c4
    have HD := dead_any w5 b g _ S5.s.dv.chip
    have hFr := F2.trans (F3.trans (F4.trans F5))
    have hrow5 := own_keep hrow hFr
    refine HD.mono ?_
    rintro en wy ⟨rfl, hwy⟩
    have hwy2 := hwy.symm
    clear hwy
    subst hwy2
    cases hd : (bootM (c.arm ⟨kd, a, ct, tn⟩) run).1.dead with
    | true =>
      go_wp2
      go_ret
      exact ⟨rfl, hdeadend S5 hrow5 hd, hFr⟩
    | false =>
      have n1 : w4.heap.size ≠ k := fun e => neH hJ S5.s.hk (by decide) e
      obtain ⟨u0, u1, u2, u3, u4, u5, u6, uf⟩ := ship_cells S5.s.hk
      obtain ⟨j0, j1, j2, j3, jf⟩ := jumpC_cells hJ
      obtain ⟨S6, F6⟩ := S5.log (L' := { L with bt := L.bt + 1, rn := 2 }) (w' := (w5.setCell ⟨k, 5, none⟩ (.int .i64 2)).setCell ⟨k, 4, none⟩ (.int .i64 (L.bt + 1))) (by rw [heap_setCell_at _ _ _ _ _ _ _ (heap_setCell_at _ _ _ _ _ _ _ S5.s.hk)]; rfl) (onlyK (onlyK (Only.refl _ _) 5 _) 4 _)
      have hJ6 : ((w5.setCell ⟨k, 5, none⟩ (.int .i64 2)).setCell ⟨k, 4, none⟩ (.int .i64 (L.bt + 1))).heap[w4.heap.size]? = some (.cells #[.bool true, .int .i64 la, .int .i64 lc, .string ld] 54 (0, 0)) := by
        rw [heap_setCell_ne _ _ _ _ _ n1, heap_setCell_ne _ _ _ _ _ n1]; exact hJ
      go_upto_region 8 with fail
      generalize (w5.setCell ⟨k, 5, none⟩ (.int .i64 2)).setCell ⟨k, 4, none⟩ (.int .i64 (L.bt + 1)) = w6 at *
      clear u0 u1 u2 u3 u4 u5 u6 uf j0 j1 j2 j3 jf
      obtain ⟨S7, F7⟩ := S6.below (w' := w6.drew) (Below.refl _ _).drew
      have hJ7 : w6.drew.heap[w4.heap.size]? = some (.cells #[.bool true, .int .i64 la, .int .i64 lc, .string ld] 54 (0, 0)) := hJ6
      have look : ∀ {wx : World}, Below w6.drew.heap.size w6.drew wx → wx.cell? ⟨k, 3, none⟩ = some (.string L.of) ∧ wx.cell? ⟨k, 4, none⟩ = some (.int .i64 (L.bt + 1)) ∧ wx.cell? ⟨w4.heap.size, 0, none⟩ = some (.bool true) ∧ wx.cell? ⟨w4.heap.size, 1, none⟩ = some (.int .i64 la) ∧ wx.cell? ⟨w4.heap.size, 2, none⟩ = some (.int .i64 lc) ∧ wx.cell? ⟨w4.heap.size, 3, none⟩ = some (.string ld) := by
        intro wx hx
        obtain ⟨_, _, _, v3, v4, _, _, _⟩ := ship_cells (S7.below hx).1.s.hk
        obtain ⟨j0, j1, j2, j3, _⟩ := jumpC_cells (below_heap hx hJ7)
        exact ⟨v3, v4, j0, j1, j2, j3⟩
      have hT0 := look (Below.refl _ _)
      have HSH7 := HSH w6.drew
      have x4 : decide (L.bt + 1 ≤ 3) = true := by simp; omega
      have hlk : Hid (∀ {wx : World}, Below w6.drew.heap.size w6.drew wx → wx.cell? ⟨k, 3, none⟩ = some (.string L.of) ∧ wx.cell? ⟨k, 4, none⟩ = some (.int .i64 (L.bt + 1)) ∧ wx.cell? ⟨w4.heap.size, 0, none⟩ = some (.bool true) ∧ wx.cell? ⟨w4.heap.size, 1, none⟩ = some (.int .i64 la) ∧ wx.cell? ⟨w4.heap.size, 2, none⟩ = some (.int .i64 lc) ∧ wx.cell? ⟨w4.heap.size, 3, none⟩ = some (.string ld)) := look
      clear look HSH
      obtain ⟨t3, t4, t5, t6, t7, t8⟩ := hT0
      have hT0 : w6.drew.cell? ⟨k, 3, none⟩ = some (.string L.of) ∧ w6.drew.cell? ⟨k, 4, none⟩ = some (.int .i64 (L.bt + 1)) ∧ w6.drew.cell? ⟨w4.heap.size, 0, none⟩ = some (.bool true) ∧ w6.drew.cell? ⟨w4.heap.size, 1, none⟩ = some (.int .i64 la) ∧ w6.drew.cell? ⟨w4.heap.size, 2, none⟩ = some (.int .i64 lc) ∧ w6.drew.cell? ⟨w4.heap.size, 3, none⟩ = some (.string ld) := ⟨t3, t4, t5, t6, t7, t8⟩
      go_region_held3 (fun w' => w'.cell? ⟨k, 3, none⟩ = some (.string L.of) ∧ w'.cell? ⟨k, 4, none⟩ = some (.int .i64 (L.bt + 1)) ∧ w'.cell? ⟨w4.heap.size, 0, none⟩ = some (.bool true) ∧ w'.cell? ⟨w4.heap.size, 1, none⟩ = some (.int .i64 la) ∧ w'.cell? ⟨w4.heap.size, 2, none⟩ = some (.int .i64 lc) ∧ w'.cell? ⟨w4.heap.size, 3, none⟩ = some (.string ld)) ((first | with_reducible exact hT0 | with_reducible exact hT8))
        (first | (go_at_call 27; refine HSH7.mono ?_; rintro en w8 ⟨rfl, hb8⟩; have hT8 := hlk.out hb8))
      all_goals go_wp2
      all_goals go_ret
      all_goals
        obtain ⟨S8, F8⟩ := S7.below hb8
        have hF8 := hFr.trans (F6.trans (F7.trans F8))
        exact ⟨rfl, hend S8 (own_keep hrow hF8) hd ss2 rfl (fun _ => hT.1) hlenG, hF8⟩
  · have hbt : (RefS.boot ⟨true, h⟩).2 = 1 := by unfold RefS.boot; rw [if_neg hT]
    have hbh : (RefS.boot ⟨true, h⟩).1.h = { h with trial := tx [] } := by unfold RefS.boot; rw [if_neg hT]
    rw [hbt] at e4 e5 e6
    rw [if_neg (by decide)] at e6
    rw [hbt, hbh] at hend
    rw [hbt, hbh] at hdeadend
    rw [hbt, hbh]
    rw [hbh] at ss
    have himg := hk.img
    obtain ⟨x0, hx0, hx1⟩ := hs.good
    have hGpos : 0 < G.length := List.length_pos_of_mem hx0
    rw [e4, e5, e6] at HB
    have HSH := fun wx i (hi : i < G.length) => shows_any wx false (loadedB h.good).1 (loadedB h.good).2.1 (loadedB h.good).2.2 G[i] (by have := (hs.imgs _ (List.getElem_mem hi)).2; omega) (hs.imgs _ (List.getElem_mem hi)).1
    have hpair : ((loadedB h.good).1, (loadedB h.good).2.1, (loadedB h.good).2.2) = loadedB h.good := rfl
    rw [hpair] at HSH
    simp only [jumpV] at HB
    have hxx : ∃ i, ∃ hi : i < G.length, loadedB G[i] = loadedB h.good := by
      obtain ⟨i, hi, e⟩ := List.getElem_of_mem hx0
      exact ⟨i, hi, by rw [e, hx1]⟩
    obtain ⟨la, lc, ld, hlo⟩ : ∃ la lc ld, loadedB h.good = (la, lc, ld) := ⟨_, _, _, rfl⟩
    rw [hlo] at HB hxx HSH
    simp only at HB
    obtain ⟨kd, a, ct, tn⟩ := o
    simp only [StepS.v, StepS.cs] at *
    have lw := A.S.s.lt
    go_enter Tryd.func7, Tryd.ntmps7
    go_wp2_with fail
    generalize w.alloc (.cells #[.int .i64 kd, .int .i64 a, .int .i64 ct, .string tn] 27) = w2 at *
    have HAR := armedK_any w2 k b g c _ L ⟨kd, a, ct, tn⟩ hok S2.s.hk S2.s.dv.chip
    simp only [StepS.v] at HAR
    refine HAR.mono ?_
    rintro en w3 ⟨rfl, hc3, ho3⟩
    obtain ⟨S3, F3⟩ := S2.chip hc3 ho3
    have d3 := look_ship S3.s.hk
    go_wp2_with fail
    refine (HB w3 S3).mono ?_
    rintro en w4 ⟨rfl, hL4⟩
    obtain ⟨S4, F4⟩ := S3.left hL4
    have hJ := heap_alloc_new w4 (.cells #[.bool false, .int .i64 la, .int .i64 lc, .string ld] 54)
    obtain ⟨S5, F5⟩ := S4.below ((Below.refl _ _).alloc (Nat.le_refl _) (.cells #[.bool false, .int .i64 la, .int .i64 lc, .string ld] 54))
    have c4 : ∀ x, (w4.alloc x).cell? ⟨k, 0, none⟩ = some (.pointer (some ⟨b, 0, none⟩)) := fun x => (ship_cells (alloc_heap S4.s.hk x)).1
    clear d3 HAR HB
    go_wp2_with fail
    generalize w4.alloc (.cells #[.bool false, .int .i64 la, .int .i64 lc, .string ld] 54) = w5 at *
    clear c4
    have HD := dead_any w5 b g _ S5.s.dv.chip
    have hFr := F2.trans (F3.trans (F4.trans F5))
    have hrow5 := own_keep hrow hFr
    refine HD.mono ?_
    rintro en wy ⟨rfl, hwy⟩
    have hwy2 := hwy.symm
    clear hwy
    subst hwy2
    cases hd : (bootM (c.arm ⟨kd, a, ct, tn⟩) run).1.dead with
    | true =>
      go_wp2
      go_ret
      exact ⟨rfl, hdeadend S5 hrow5 hd, hFr⟩
    | false =>
      have n1 : w4.heap.size ≠ k := fun e => neH hJ S5.s.hk (by decide) e
      obtain ⟨u0, u1, u2, u3, u4, u5, u6, uf⟩ := ship_cells S5.s.hk
      obtain ⟨j0, j1, j2, j3, jf⟩ := jumpC_cells hJ
      obtain ⟨S6, F6⟩ := S5.log (L' := { L with rn := 1 }) (w' := w5.setCell ⟨k, 5, none⟩ (.int .i64 1)) (by rw [heap_setCell_at _ _ _ _ _ _ _ S5.s.hk]; rfl) (onlyK (Only.refl _ _) 5 _)
      have hJ6 : (w5.setCell ⟨k, 5, none⟩ (.int .i64 1)).heap[w4.heap.size]? = some (.cells #[.bool false, .int .i64 la, .int .i64 lc, .string ld] 54 (0, 0)) := by
        rw [heap_setCell_ne _ _ _ _ _ n1]; exact hJ
      have hrow6 := own_keep hrow5 F6
      go_wp2_with fail
      obtain ⟨r, cap, hgs, hr, hcap, hcG⟩ := own_cell hrow6 hGpos
      have hfin : ∀ {wx : World} (m : Nat) (t : Nat) (hlt : t < G.length), loadedB G[t] = (la, lc, ld) → Below (w5.setCell ⟨k, 5, none⟩ (.int .i64 1)).heap.size (w5.setCell ⟨k, 5, none⟩ (.int .i64 1)) wx → m = wx.heap.size →
          (∃ c' run' L' G' h', Mid B (N + 64) M ((wx.setCell ⟨k, 2, none⟩ (.slice (some ⟨m, 0, none⟩) 1 1)).alloc (.cells #[.string G[t]] 9)) k b g q c' run' L' G' h' ∧ (ct < 0 → c'.dead = false ∧ c'.armed = false ∧ h' = { h with trial := tx [] } ∧ run' = 1)) ∧ FrS B w ((wx.setCell ⟨k, 2, none⟩ (.slice (some ⟨m, 0, none⟩) 1 1)).alloc (.cells #[.string G[t]] 9)) := by
        intro wx m t hlt he hbx hm
        subst hm
        obtain ⟨S7, F7⟩ := S6.below hbx
        obtain ⟨S8, F8⟩ := S7.log (L' := { L with rn := 1, gs := .slice (some ⟨wx.heap.size, 0, none⟩) 1 1 }) (w' := wx.setCell ⟨k, 2, none⟩ (.slice (some ⟨wx.heap.size, 0, none⟩) 1 1)) (by rw [heap_setCell_at _ _ _ _ _ _ _ S7.s.hk]; rfl) (onlyK (Only.refl _ _) 2 _)
        obtain ⟨S9, F9⟩ := S8.below ((Below.refl _ _).alloc (Nat.le_refl _) (.cells #[.string G[t]] 9))
        have hnew : ((wx.setCell ⟨k, 2, none⟩ (.slice (some ⟨wx.heap.size, 0, none⟩) 1 1)).alloc (.cells #[.string G[t]] 9)).heap[wx.heap.size]? = some (.cells #[.string G[t]] 9 (0, 0)) := by
          have := heap_alloc_new (wx.setCell ⟨k, 2, none⟩ (.slice (some ⟨wx.heap.size, 0, none⟩) 1 1)) (.cells #[.string G[t]] 9)
          rw [World.size_setCell] at this
          exact this
        have ss1 : Safe { h with trial := tx [] } [G[t]] L.of L.bt L.fl := ⟨⟨G[t], List.mem_singleton.2 rfl, by show loadedB h.good = _; rw [he, hlo]⟩, fun x hx => by rw [List.mem_singleton] at hx; rw [hx]; exact hs.imgs _ (List.getElem_mem hlt), ss.trial, ss.bt0, ss.bt3, ss.floor⟩
        have hF := hFr.trans (F6.trans (F7.trans (F8.trans F9)))
        exact ⟨hend S9 (own_one hnew S7.s.lt.2.2.2) hd ss1 rfl (fun e => by omega) (by simp; omega), hF⟩
      generalize w5.setCell ⟨k, 5, none⟩ (.int .i64 1) = w6 at *
      clear u0 u1 u2 u3 u4 u5 u6 uf j0 j1 j2 j3 jf hend hdeadend
      go_loopw [6, 7] (fun i _ wr => ∃ t : Nat, t ≤ G.length ∧ i = .int .i64 t ∧ (∀ t' (ht : t' < G.length), t' < t → loadedB G[t'] ≠ (la, lc, ld)) ∧ Below w6.heap.size w6 wr) (fun i _ _ => G.length - (intOf i).toNat)
      case atStart => exact ⟨0, by omega, rfl, fun t' _ e => by omega, Below.refl _ _⟩
      case round =>
        obtain ⟨t, ht, rfl, hno, hbr⟩ := hrel
        by_cases hlt : t < G.length
        · have hltI : (t : Int) < G.length := by omega
          obtain ⟨S7, F7⟩ := S6.below hbr
          obtain ⟨v0, v1, v2, v3, v4, v5, v6, vf⟩ := ship_cells S7.s.hk
          rw [hgs] at v2
          obtain ⟨j0, j1, j2, j3, jf⟩ := jumpC_cells (below_heap hbr hJ6)
          have hct : wr.cell? ⟨r, t, none⟩ = some (.string G[t]) := (hbr.cell (p := ⟨r, t, none⟩) hr).trans (hcG t hlt)
          have HS := HSH wr.drew t hlt
          have hlk : Hid (∀ wx : World, Below wr.drew.heap.size wr.drew wx → wx.cell? ⟨k, 2, none⟩ = some (.slice (some ⟨r, 0, none⟩) G.length cap) ∧ wx.cell? ⟨w4.heap.size, 0, none⟩ = some (.bool false) ∧ wx.cell? ⟨w4.heap.size, 1, none⟩ = some (.int .i64 la) ∧ wx.cell? ⟨w4.heap.size, 2, none⟩ = some (.int .i64 lc) ∧ wx.cell? ⟨w4.heap.size, 3, none⟩ = some (.string ld) ∧ wx.cell? ⟨r, t, none⟩ = some (.string G[t])) := by
            intro wx hx
            have hb2 : Below w6.heap.size w6 wx := hbr.drew.trans (hx.mono hbr.size)
            obtain ⟨_, _, y2, _⟩ := ship_cells (S6.below hb2).1.s.hk
            obtain ⟨z0, z1, z2, z3, _⟩ := jumpC_cells (below_heap hb2 hJ6)
            exact ⟨by rw [← hgs]; exact y2, z0, z1, z2, z3, (hb2.cell (p := ⟨r, t, none⟩) hr).trans (hcG t hlt)⟩
          have hT0 := hlk.out wr.drew (Below.refl _ _)
          go_upto_region 13 with fail
          generalize hgt : G[t] = gt at *
          go_region_held3 (fun w' => w'.cell? ⟨k, 2, none⟩ = some (.slice (some ⟨r, 0, none⟩) G.length cap) ∧ w'.cell? ⟨w4.heap.size, 0, none⟩ = some (.bool false) ∧ w'.cell? ⟨w4.heap.size, 1, none⟩ = some (.int .i64 la) ∧ w'.cell? ⟨w4.heap.size, 2, none⟩ = some (.int .i64 lc) ∧ w'.cell? ⟨w4.heap.size, 3, none⟩ = some (.string ld) ∧ w'.cell? ⟨r, t, none⟩ = some (.string gt)) ((first | with_reducible exact hT0 | with_reducible exact hT8))
            (first | (go_at_call 27; refine HS.mono ?_; rintro en w8 ⟨rfl, hb8⟩; have hT8 := hlk.out w8 hb8))
          have hb9 : Below w6.heap.size w6 w8 := hbr.drew.trans (hb8.mono hbr.size)
          obtain ⟨S8, F8⟩ := S6.below hb9
          obtain ⟨m2, m3, m4, m5, m6, m7⟩ := hT8
          have mf := (ship_cells S8.s.hk).2.2.2.2.2.2.2
          clear hT0 hct v0 v1 v2 v3 v4 v5 v6 vf j0 j1 j2 j3 jf HS
          by_cases he : loadedB gt = (la, lc, ld)
          · have hdt : decide (loadedB gt = (la, lc, ld)) = true := by simp [he]
            have kl := S8.s.lt.1
            have kn : ¬ k = w8.heap.size := by omega
            have kn2 : ¬ w8.heap.size = k := by omega
            have A2 : ∀ x, (w8.alloc x).cell? ⟨k, 2, none⟩ = some (.slice (some ⟨r, 0, none⟩) G.length cap) := fun x => by rw [← hgs]; exact (ship_cells (alloc_heap S8.s.hk x)).2.2.1
            have AF : ∀ x y, (w8.alloc x).frozen? ⟨k, y, none⟩ = false := fun x => (ship_cells (alloc_heap S8.s.hk x)).2.2.2.2.2.2.2
            have hf := hfin (wx := w8) w8.heap.size t hlt (by rw [hgt]; exact he) hb9 rfl
            rw [hgt] at hf
            clear hfin hno hlk
            go_wp2
            go_ret
            exact ⟨rfl, hf⟩
          · have hdt : decide (loadedB gt = (la, lc, ld)) = false := by simp [he]
            clear hfin
            go_wp2
            go_roundw
            case rel =>
              refine ⟨t + 1, by omega, by go_num, ?_, hb9⟩
              intro t' ht' hlt'
              by_cases e : t' = t
              · subst e; rw [hgt]; exact he
              · exact hno t' ht' (by omega)
            case measure => simp [intOf]; omega
        · obtain ⟨i, hi, e⟩ := hxx
          exact absurd e (hno i hi (by omega))
end Go.Proofs.YtcokahccbjdeaabDoor
