import Derived.Test.YtcokahccbjdeaabDoorAlD
import Derived.Deep.RegionLaw
namespace Go.Proofs.YtcokahccbjdeaabDoor
open Go.RowKit

theorem step_append_own {P : Program} {ops : Array Oper} {o : Oper} {a : Act} {w : World} {K : Act → World → Prop} {Q : Exit → Act → World → Prop} {E : Prop}
    (hg : o.guard = none) (s x : Operand) (t : TypeId) (hop : o.op = Op.call { callee := Callee.builtin Builtin.append, args := #[s, x], argTypes := #[t, t] })
    (base : Nat) (e : TypeId) (i : TypeInfo) (z : Value) (size bytes : Nat) (h1 : P.underlying t = some (.slice e)) (h2 : P.info? e = some i) (h3 : i.zero = some z) (h4 : i.size = size) (h5 : i.bytes = bytes) (h6 : z.cells.size = size) (h7 : 0 < size)
    (v : Value) (n : Nat) (xs : List Value) (hs : a.eval s = v) (hown : w.ownsRow base e size v n xs)
    (ad : Addr) (m c : Nat) (news : List Value) (hx : a.eval x = .slice (some ad) m c) (hn : news.length = m * size) (hc : ∀ j u, news[j]? = some u → w.cell? (ad.add j) = some u) (h1c : ∀ u ∈ news, u.oneCell' = true)
    (b1 : n + m ≤ maxLen) (b2 : (n + m) * bytes ≤ 140737488355328) (hbase : base ≤ w.heap.size)
    (hK : ∀ v' w', w'.ownsRow base e size v' (n + m) (xs ++ news) → w.grownBy w' v.ownBlock → K (a.put o.dst v') w') :
    if Region.wanted o (yielded ops a.tmps) = true then Oper.wp P o a w K Q else E := by
  have hw : Region.wanted o (yielded ops a.tmps) = true := by simp [Region.wanted, hg]
  rw [if_pos hw]
  obtain ⟨v', w', hrun, r1, r2, _⟩ := run_append_own (P := P) w base t o.type e i z size bytes h1 h2 h3 h4 h5 h6 h7 v n xs hown ad m c news hn hc h1c b1 b2 hbase
  unfold Oper.wp
  simp [execOp, hop, resolve, invoke, builtin, hs, hx, hrun, Result.andThen]
  exact hK v' w' r1 r2
theorem Tryd.info9 : (Tryd.prog.info? 9).map (fun i => (i.zero, i.size, i.bytes)) = some (some (.string ⟨#[]⟩), 1, 16) := by kernel_rfl
theorem own_block {w : World} {B : Nat} {v : Value} {n : Nat} {xs : List Value} (h : w.ownsRow B 9 1 v n xs) : ∀ r, v.ownBlock = some r → B ≤ r ∧ ∃ cur, w.heap[r]? = some (.cells cur 9 (0, 0)) := by
  intro r hr
  rcases h.2 with ⟨e, _⟩ | ⟨g, cap, cur, e1, e2, e3, _⟩
  · rw [e] at hr; cases hr
  · rw [e1] at hr
    have : g = r := by simpa [Value.ownBlock] using hr
    subst this
    exact ⟨e2, cur, e3⟩
/-- The row of texts may have been written into, and nothing else. -/
theorem Ship.grown {B : Nat} {w w' : World} {k b g q : Nat} {c : ChipS} {run : Int} {L : Log} {v : Value} {n : Nat} {xs : List Value} (S : Ship B w k b g q c run L) (hown : w.ownsRow B 9 1 v n xs) (hg : w.grownBy w' v.ownBlock) : Ship B w' k b g q c run L ∧ Below B w w' := by
  have ob := own_block hown
  have ne : ∀ {i : Nat} {x : Array Value} {t : TypeId}, w.heap[i]? = some (.cells x t (0, 0)) → t ≠ 9 → w'.heap[i]? = some (.cells x t (0, 0)) := by
    intro i x t hi ht
    refine (hg.block i (Array.getElem?_eq_some_iff.1 hi).1 (fun e => ?_)).trans hi
    obtain ⟨_, cur, hc⟩ := ob i e.symm
    exact neH hi hc ht rfl
  have V := S.s.dv
  have l := S.s.lt
  have hbel : Below B w w' := ⟨hg.os, hg.tape, hg.output, hg.size, fun j hj => hg.block j (by omega) (fun e => by have := (ob j e.symm).1; omega)⟩
  refine ⟨⟨⟨ne S.s.hk (by decide), ⟨⟨ne V.chip.hb (by decide), ne V.chip.hg (by decide), V.chip.len, V.chip.ops0, V.chip.left1, V.chip.left0, V.chip.tn⟩, ?_, V.b0, V.g0⟩, S.s.Bk, S.s.Bb, S.s.Bg, S.s.B1⟩, ne S.hq (by decide), S.Bq⟩, hbel⟩
  have t := V.turns
  have B1 := S.s.B1
  exact ⟨(hbel.cell (p := ⟨0, 0, none⟩) B1).trans t.t0, (hbel.cell (p := ⟨0, 1, none⟩) B1).trans t.t1, (hbel.cell (p := ⟨0, 2, none⟩) B1).trans t.t2⟩
theorem own_form {w : World} {B : Nat} {v : Value} {n : Nat} {xs : List Value} (h : w.ownsRow B 9 1 v n xs) (hn : 0 < n) : ∃ r cap, v = .slice (some ⟨r, 0, none⟩) n cap := by
  rcases h.2 with ⟨_, e⟩ | ⟨g, cap, cur, e1, _⟩
  · omega
  · exact ⟨g, cap, e1⟩
theorem own_one {w : World} {B m : Nat} {x : ByteArray} (h : w.heap[m]? = some (.cells #[.string x] 9 (0, 0))) (hB : B ≤ m) : w.ownsRow B 9 1 (.slice (some ⟨m, 0, none⟩) 1 1) [x].length (rowV [x]) :=
  ⟨rfl, Or.inr ⟨m, 1, _, rfl, hB, h, Nat.le_refl _, by unfold maxLen; omega, rfl, rfl⟩⟩
set_option maxRecDepth 100000 in
set_option maxHeartbeats 1000000 in
theorem opensK_any (w : World) (B N M k b g q : Nat) (c : ChipS) (run : Int) (L : Log) (G : List ByteArray) (h : HeldS) (o : StepS) (hok : o.ok) (A : Sea B N M w k b g q c run L G h) :
    Calls Tryd.prog 21 #[.pointer (some ⟨k, 0, none⟩), o.v] w fun e w' => e = .returned (.bool true) ∧ (∃ q' c' L', Mid B N M w' k b g q' c' 0 L' G h) ∧ FrS B w w' := by
  obtain ⟨U, ucells, uops, _⟩ := arm_up A.live o
  have on1 : On (c.arm o).cells h := by rw [ucells]; exact A.on
  have hb1 : ∀ x, Below w.heap.size w (w.alloc x) := fun x => (Below.refl _ _).alloc (Nat.le_refl _) x
  have hops := A.ops
  have hrow := A.row
  have hs := A.safe
  have hlenG := A.len
  obtain ⟨S2, F2⟩ := A.S.below (hb1 (.cells o.cs 27))
  obtain ⟨kd, a, ct, tn⟩ := o
  simp only [StepS.v, StepS.cs] at *
  go_enter Tryd.func21, Tryd.ntmps21
  go_wp2_with fail
  generalize w.alloc (.cells #[.int .i64 kd, .int .i64 a, .int .i64 ct, .string tn] 27) = w2 at *
  have HAR := armedK_any w2 k b g c _ L ⟨kd, a, ct, tn⟩ hok S2.s.hk S2.s.dv.chip
  simp only [StepS.v] at HAR
  refine HAR.mono ?_
  rintro en w3 ⟨rfl, hc3, ho3⟩
  obtain ⟨S3, F3⟩ := S2.chip hc3 ho3
  obtain ⟨u0, u1, u2, u3, u4, u5, u6, uf⟩ := ship_cells S3.s.hk
  go_wp2_with fail
  refine (open_some w3 b g _ h S3.s.dv on1.load.1).mono ?_
  rintro en w4 ⟨q', rfl, hq1, hq2, hb4⟩
  obtain ⟨S4, F4⟩ := S3.s.opened hb4 hq2 hq1
  obtain ⟨v0, v1, v2, v3, v4, v5, v6, vf⟩ := ship_cells (S3.s.below hb4).1.hk
  have HD := dead_any w4 b g _ (S3.s.below hb4).1.dv.chip
  rw [U.dead] at HD
  clear u0 u1 u2 u3 u4 u5 u6 uf
  go_wp2_with (go_at_call 22; refine HD.mono ?_; rintro en w5 ⟨rfl, hw5⟩; have hw6 := hw5.symm; clear hw5; subst hw6)
  go_ret
  have hF := F2.trans (F3.trans F4)
  exact ⟨rfl, ⟨q', _, _, S4, own_keep hrow hF, on1, hs, fun _ => ⟨rfl, fun e => by omega⟩, by omega, hlenG⟩, hF⟩
theorem safe_confirm {h : HeldS} {G : List ByteArray} {of : ByteArray} {bt fl : Int} (s : Safe h G of bt fl) (k : h.ok) (ht : h.trial.size ≠ 0) : Safe (RefS.confirm ⟨true, h⟩ 2).1.h [of] of bt fl := by
  obtain ⟨t1, _⟩ := s.trial ht
  obtain ⟨_, _, _, t2⟩ := k.onTrial ht
  have f := k.fl
  have bh := k.behind
  exact ⟨⟨of, List.mem_singleton.2 rfl, by show loadedB h.trial = loadedB of; rw [t1]⟩, fun x hx => by rw [List.mem_singleton] at hx; subst hx; rw [← t1]; exact ⟨by omega, by omega⟩, fun e => absurd rfl e, s.bt0, s.bt3, s.floor⟩
theorem Safe.more {h : HeldS} {G G' : List ByteArray} {of : ByteArray} {bt fl : Int} (s : Safe h G of bt fl) (hG : ∀ x ∈ G', 0 ≤ verB x ∧ x.size ≤ 120) : Safe h (G ++ G') of bt fl ∧ (∀ {h1 : HeldS}, Safe h1 G' of bt fl → Safe h1 (G ++ G') of bt fl) := by
  have im : ∀ x ∈ G ++ G', 0 ≤ verB x ∧ x.size ≤ 120 := fun x hx => by
    rcases List.mem_append.1 hx with e | e
    · exact s.imgs x e
    · exact hG x e
  obtain ⟨x, hx, e⟩ := s.good
  refine ⟨⟨⟨x, List.mem_append_left _ hx, e⟩, im, s.trial, s.bt0, s.bt3, s.floor⟩, fun s1 => ?_⟩
  obtain ⟨y, hy, e1⟩ := s1.good
  exact ⟨⟨y, List.mem_append_right _ hy, e1⟩, im, s1.trial, s1.bt0, s1.bt3, s1.floor⟩
set_option maxRecDepth 100000 in
set_option maxHeartbeats 1000000 in
theorem confirms_any (w : World) (B N M k b g q : Nat) (c : ChipS) (run : Int) (L : Log) (G : List ByteArray) (h : HeldS) (o : StepS) (hok : o.ok) (hN : N ≤ 4611686018427300000) (hM : M < 8000000000000) (A : Sea B N M w k b g q c run L G h) :
    Calls Tryd.prog 18 #[.pointer (some ⟨k, 0, none⟩), o.v] w fun e w' => e = .returned (.bool true) ∧ (∃ c' run' L' G' h', Mid B (N + 64) (M + 1) w' k b g q c' run' L' G' h') ∧ Below B w w' := by
  obtain ⟨hl, hk⟩ := A.on.load
  obtain ⟨U, ucells, uops, _⟩ := arm_up A.live o
  have on1 : On (c.arm o).cells h := by rw [ucells]; exact A.on
  obtain ⟨sh, hrun⟩ := shape_confirm on1.load.1 hk run A.two
  obtain ⟨D, hmade⟩ := sh.did U on1
  have herr := sh.err
  simp only at D herr
  have hops := A.ops
  have hb1 : ∀ x, Below w.heap.size w (w.alloc x) := fun x => (Below.refl _ _).alloc (Nat.le_refl _) x
  have hrow := A.row
  have hs := A.safe
  have hlenG := A.len
  have hrn := A.rn
  have htwo := A.two
  obtain ⟨S2, F2⟩ := A.S.below (hb1 (.cells o.cs 27))
  have HC := fun wx (Sx : Ship B wx k b g q (c.arm o) run L) => confirm_any wx q b g _ run (by omega) Sx.s.dv Sx.hq on1.oks
  have hop2 : (c.arm o).ops ≤ (N : Int) := by omega
  obtain ⟨kd, a, ct, tn⟩ := o
  simp only [StepS.v, StepS.cs] at *
  go_enter Tryd.func18, Tryd.ntmps18
  go_wp2_with fail
  generalize w.alloc (.cells #[.int .i64 kd, .int .i64 a, .int .i64 ct, .string tn] 27) = w2 at *
  have HAR := armedK_any w2 k b g c _ L ⟨kd, a, ct, tn⟩ hok S2.s.hk S2.s.dv.chip
  simp only [StepS.v] at HAR
  refine HAR.mono ?_
  rintro en w3 ⟨rfl, hc3, ho3⟩
  obtain ⟨S3, F3⟩ := S2.chip hc3 ho3
  have d3 := look_ship S3.s.hk
  go_wp2_with fail
  refine (HC w3 S3).mono ?_
  rintro en w4 ⟨rfl, hL4⟩
  rw [herr]
  rw [hrun] at hL4
  obtain ⟨S4, F4⟩ := S3.left hL4
  have HD := dead_any w4 b g _ S4.s.dv.chip
  have hFr := F2.trans (F3.trans F4)
  have hrow4 := own_keep hrow hFr
  obtain ⟨u0, u1, u2, u3, u4, u5, u6, uf⟩ := ship_cells S4.s.hk
  rw [hrn] at u5
  clear d3 HAR HC
  go_wp2_with fail
  refine HD.mono ?_
  rintro en w5 ⟨rfl, hw5⟩
  have hw6 := hw5.symm
  clear hw5
  subst hw6
  by_cases hr : run = 2
  · have ht := htwo hr
    have hof := (hs.trial ht).1
    subst hr
    have ss := safe_confirm hs hk ht
    have he : (RefS.confirm ⟨true, h⟩ 2).2.2 = 0 := rfl
    have hr1 : (RefS.confirm ⟨true, h⟩ 2).2.1 = 1 := rfl
    have hnt : (RefS.confirm ⟨true, h⟩ 2).1.h.trial.size = 0 := rfl
    rw [he]
    rw [hr1] at S4
    generalize (RefS.confirm ⟨true, h⟩ 2).1.h = h1 at *
    cases hd : (confirmM (c.arm ⟨kd, a, ct, tn⟩) 2).1.dead with
    | true =>
      obtain ⟨S4d, F4d⟩ := S4.below (w' := w4.drew) (Below.refl _ _).drew
      obtain ⟨S5, F5⟩ := S4d.below ((Below.refl _ _).alloc (Nat.le_refl _) (.cells #[.string L.of] 9))
      have hoA := own_keep (own_keep hrow4 F4d) F5
      obtain ⟨i0, hi, hz0, hz1, hz2⟩ := info_parts Tryd.info9
      have c1 := cells_new1 w4.drew #[.string L.of] 9 [.string L.of] rfl
      have c2 : ∀ u ∈ [Value.string L.of], u.oneCell' = true := by intro u hu; simp at hu; subst hu; rfl
      have c3 : G.length + 1 ≤ maxLen := by unfold maxLen; omega
      have c4 : (G.length + 1) * 16 ≤ 140737488355328 := by omega
      have c5 : B ≤ (w4.drew.alloc (.cells #[.string L.of] 9)).heap.size := by have := S5.s.lt.2.2.2; exact this
      have kl := S4.s.lt.1
      have kn : ¬ k = w4.heap.size := by omega
      have kn2 : ¬ w4.heap.size = k := by omega
      have hcells : (fun wx : World => wx.cell? ⟨k, 2, none⟩ = some L.gs ∧ wx.cell? ⟨k, 3, none⟩ = some (.string L.of)) w4.drew := ⟨u2, u3⟩
      have e2 : w4.drew.cell? ⟨k, 2, none⟩ = some L.gs := u2
      have e3 : w4.drew.cell? ⟨k, 3, none⟩ = some (.string L.of) := u3
      have ef : ∀ y, w4.drew.frozen? ⟨k, y, none⟩ = false := uf
      clear hcells
      go_upto_region 7 with fail
      go_region_law (refine step_append_own rfl (.tmp 35) (.tmp 40) 30 rfl B 9 i0 _ 1 16 Tryd.underlying30 hi hz0 hz1 hz2 rfl (by decide) L.gs G.length (rowV G) (by simp [Act.eval]) hoA ⟨w4.heap.size, 0, none⟩ 1 1 [.string L.of] (by simp [Act.eval]) rfl c1 c2 c3 c4 c5 ?_; intro v' w' ho' hg'; obtain ⟨S6, hb6⟩ := S5.grown hoA hg'; obtain ⟨y0, y1, y2, y3, y4, y5, y6, yf⟩ := ship_cells S6.s.hk; obtain ⟨r', cap', hv'⟩ := own_form ho' (Nat.succ_pos _); subst hv')
      all_goals go_wp2
      all_goals go_ret
      all_goals
        obtain ⟨S7, F7⟩ := S6.log (L' := { L with gs := .slice (some ⟨r', 0, none⟩) (G.length + 1) cap' }) (w' := w'.setCell ⟨k, 2, none⟩ (.slice (some ⟨r', 0, none⟩) (G.length + 1) cap')) (by rw [heap_setCell_at _ _ _ _ _ _ _ S6.s.hk]; rfl) (onlyK (Only.refl _ _) 2 _)
        have hoG : w'.ownsRow B 9 1 (.slice (some ⟨r', 0, none⟩) (G.length + 1) cap') (G ++ [L.of]).length (rowV (G ++ [L.of])) := by
          have e : rowV (G ++ [L.of]) = rowV G ++ [.string L.of] := by simp [rowV]
          rw [List.length_append, e]; exact ho'
        obtain ⟨m1, m2⟩ := hs.more (G' := [L.of]) ss.imgs
        have hmid := Mid.of (c1 := c.arm ⟨kd, a, ct, tn⟩) (h0 := h) (G := G ++ [L.of]) (M := M + 1) S7 (own_keep hoG F7) D (fun _ => m1) (m2 ss) (fun e => by rw [hd] at e; cases e) hop2 (by rw [List.length_append]; exact Nat.succ_le_succ hlenG)
        exact ⟨rfl, ⟨_, _, _, _, hmid⟩, hFr.bel.trans (F4d.bel.trans (F5.bel.trans (hb6.trans F7.bel)))⟩
    | false =>
      have kl := S4.s.lt.1
      have kn : ¬ k = w4.heap.size := by omega
      have kn2 : ¬ w4.heap.size = k := by omega
      have A2 : ∀ x, (w4.alloc x).cell? ⟨k, 2, none⟩ = some L.gs := fun x => (ship_cells (alloc_heap S4.s.hk x)).2.2.1
      have A5 : ∀ x, (w4.alloc x).cell? ⟨k, 5, none⟩ = some (.int .i64 2) := fun x => by rw [← hrn]; exact (ship_cells (alloc_heap S4.s.hk x)).2.2.2.2.2.1
      have AF : ∀ x y, (w4.alloc x).frozen? ⟨k, y, none⟩ = false := fun x => (ship_cells (alloc_heap S4.s.hk x)).2.2.2.2.2.2.2
      obtain ⟨S5, F5⟩ := S4.log (L' := { L with gs := .slice (some ⟨w4.heap.size, 0, none⟩) 1 1, rn := 1 }) (w' := (w4.setCell ⟨k, 2, none⟩ (.slice (some ⟨w4.heap.size, 0, none⟩) 1 1)).setCell ⟨k, 5, none⟩ (.int .i64 1)) (by rw [heap_setCell_at _ _ _ _ _ _ _ (heap_setCell_at _ _ _ _ _ _ _ S4.s.hk)]; rfl) (onlyK (onlyK (Only.refl _ _) 2 _) 5 _)
      obtain ⟨S6, F6⟩ := S5.below ((Below.refl _ _).alloc (Nat.le_refl _) (.cells #[.string L.of] 9))
      have hnew : (((w4.setCell ⟨k, 2, none⟩ (.slice (some ⟨w4.heap.size, 0, none⟩) 1 1)).setCell ⟨k, 5, none⟩ (.int .i64 1)).alloc (.cells #[.string L.of] 9)).heap[w4.heap.size]? = some (.cells #[.string L.of] 9 (0, 0)) := by
        have := heap_alloc_new ((w4.setCell ⟨k, 2, none⟩ (.slice (some ⟨w4.heap.size, 0, none⟩) 1 1)).setCell ⟨k, 5, none⟩ (.int .i64 1)) (.cells #[.string L.of] 9)
        rw [World.size_setCell, World.size_setCell] at this
        exact this
      have hmid := Mid.of (c1 := c.arm ⟨kd, a, ct, tn⟩) (h0 := h) (G := [L.of]) (M := M + 1) S6 (own_one hnew S4.s.lt.2.2.2) D (fun e => by rw [hd] at e; cases e) ss (fun _ => ⟨rfl, fun e => by omega⟩) hop2 (by simp)
      go_wp2
      go_ret
      exact ⟨rfl, ⟨_, _, _, _, hmid⟩, hFr.bel.trans (F5.bel.trans F6.bel)⟩
  · have hrb : (run == 2) = false := by simp [hr]
    have he : (RefS.confirm ⟨true, h⟩ run).2.2 = 14 := by unfold RefS.confirm; rw [if_pos hr]
    have hr1 : (RefS.confirm ⟨true, h⟩ run).2.1 = run := by unfold RefS.confirm; rw [if_pos hr]
    have hh1 : (RefS.confirm ⟨true, h⟩ run).1.h = h := by unfold RefS.confirm; rw [if_pos hr]
    rw [he]
    rw [hh1] at D
    have hMid := Mid.of (c1 := c.arm ⟨kd, a, ct, tn⟩) S4 hrow4 D (fun _ => hs) hs (fun _ => ⟨by rw [hr1]; exact hrn, by rw [hr1]; exact htwo⟩) hop2 (Nat.le_succ_of_le hlenG)
    cases hd : (confirmM (c.arm ⟨kd, a, ct, tn⟩) run).1.dead with
    | true =>
      go_wp2
      go_ret
      exact ⟨rfl, ⟨_, _, _, _, hMid⟩, hFr.bel⟩
    | false =>
      go_wp2
      go_ret
      exact ⟨rfl, ⟨_, _, _, _, hMid⟩, hFr.bel⟩
end Go.Proofs.YtcokahccbjdeaabDoor
