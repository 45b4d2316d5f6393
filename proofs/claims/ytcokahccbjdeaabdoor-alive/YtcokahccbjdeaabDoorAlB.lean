import Derived.Test.YtcokahccbjdeaabDoorAlA
import Derived.Test.YtcokahccbjdeaabDoorCoE
import Derived.Deep.RegionHeld3
import Derived.BigQuiet
import Derived.Deep.QuietTactic
namespace Go.Proofs.YtcokahccbjdeaabDoor
open Go.RowKit

/-- One step of a script. -/
structure StepS where
  kind : Int
  a : Int
  cut : Int
  torn : ByteArray
def StepS.v (o : StepS) : Value := .agg #[.int .i64 o.kind, .int .i64 o.a, .int .i64 o.cut, .string o.torn]
def StepS.cs (o : StepS) : Array Value := #[.int .i64 o.kind, .int .i64 o.a, .int .i64 o.cut, .string o.torn]
structure StepS.ok (o : StepS) : Prop where
  a0 : -9223372036854775808 ≤ o.a
  a1 : o.a < 9223372036854775808
  c0 : -9223372036854775808 ≤ o.cut
  c1 : o.cut < 9223372036854775808
  t : o.torn.size < 4611686018427387904
theorem stepS_cells {w : World} {p : Nat} {o : StepS} (H : w.heap[p]? = some (.cells o.cs 27 (0, 0))) :
    w.cell? ⟨p, 0, none⟩ = some (.int .i64 o.kind) ∧ w.cell? ⟨p, 1, none⟩ = some (.int .i64 o.a) ∧ w.cell? ⟨p, 2, none⟩ = some (.int .i64 o.cut) ∧ w.cell? ⟨p, 3, none⟩ = some (.string o.torn) ∧ (∀ x, w.frozen? ⟨p, x, none⟩ = false) := by
  refine ⟨?_, ?_, ?_, ?_, fun x => free_of_heap H⟩ <;> (rw [cell_of_heap H]; rfl)
/-- The power will be cut, if so it is asked. -/
def ChipS.arm (c : ChipS) (o : StepS) : ChipS := if 0 ≤ o.cut then c.cut o.cut o.torn else c
theorem arm_up {c : ChipS} (h : Live c) (o : StepS) : Up (c.arm o) ∧ (c.arm o).cells = c.cells ∧ (c.arm o).ops = c.ops ∧ (o.cut < 0 → c.arm o = c) := by
  unfold ChipS.arm
  by_cases hc : 0 ≤ o.cut
  · rw [if_pos hc]
    exact ⟨⟨h.dead, h.len, fun _ => hc⟩, rfl, rfl, fun e => by omega⟩
  · rw [if_neg hc]
    exact ⟨⟨h.dead, h.len, fun e => by rw [h.armed] at e; cases e⟩, rfl, rfl, fun _ => rfl⟩
set_option maxRecDepth 100000 in
set_option maxHeartbeats 1000000 in
theorem armedK_any (w : World) (k b g : Nat) (c : ChipS) (d : Value) (L : Log) (o : StepS) (ho : o.ok) (hk : w.heap[k]? = some (.cells (shipC b d L) 32 (0, 0))) (hc : ChipAt w b g c) :
    Calls Tryd.prog 25 #[.pointer (some ⟨k, 0, none⟩), o.v] w fun e w' => e = .returned (.tuple #[]) ∧ ChipAt w' b g (c.arm o) ∧ Only (fun x => x = b ∨ x = g) w w' := by
  have hb1 : ∀ x, Below w.heap.size w (w.alloc x) := fun x => (Below.refl _ _).alloc (Nat.le_refl _) x
  obtain ⟨kd, a, ct, tn⟩ := o
  have lb := (Array.getElem?_eq_some_iff.1 hc.hb).1
  have lg := (Array.getElem?_eq_some_iff.1 hc.hg).1
  by_cases h0 : 0 ≤ ct
  · have HA : Hid (c.arm ⟨kd, a, ct, tn⟩ = c.cut ct tn) := by unfold ChipS.arm Hid; rw [if_pos h0]
    have hO := heap_alloc_new w (.cells (StepS.cs ⟨kd, a, ct, tn⟩) 27)
    have hkA := alloc_heap hk (.cells (StepS.cs ⟨kd, a, ct, tn⟩) 27)
    have hcA := hc.below (hb1 (.cells (StepS.cs ⟨kd, a, ct, tn⟩) 27))
    have hbA := hb1 (.cells (StepS.cs ⟨kd, a, ct, tn⟩) 27)
    simp only [StepS.v, StepS.cs] at *
    go_enter Tryd.func25, Tryd.ntmps25
    go_upto_region 2 with fail
    generalize w.alloc (.cells #[.int .i64 kd, .int .i64 a, .int .i64 ct, .string tn] 27) = wz at *
    have hO' : wz.drew.heap[w.heap.size]? = some (.cells (StepS.cs ⟨kd, a, ct, tn⟩) 27 (0, 0)) := hO
    have hkd : wz.drew.heap[k]? = some (.cells (shipC b d L) 32 (0, 0)) := hkA
    have hcd : ChipAt wz.drew b g c := hcA.below (Below.refl _ _).drew
    have HC := cut_any wz.drew b g c ct tn ho.c1 ho.c0 ho.t hcd
    obtain ⟨o0, o1, o2, o3, of⟩ := stepS_cells hO'
    have d0 := (ship_cells hkd).1
    simp only at o2 o3
    have nO : ¬ (w.heap.size = b ∨ w.heap.size = g) := by omega
    have nk : ¬ (k = b ∨ k = g) := fun e => by rcases e with e | e; exact neH hk hc.hb (by decide) e; exact neH hk hc.hg (by decide) e
    have hT0 : wz.drew.cell? ⟨k, 0, none⟩ = some (.pointer (some ⟨b, 0, none⟩)) ∧ wz.drew.cell? ⟨w.heap.size, 2, none⟩ = some (.int .i64 ct) ∧ wz.drew.cell? ⟨w.heap.size, 3, none⟩ = some (.string tn) := ⟨d0, o2, o3⟩
    go_region_held3 (fun w' => w'.cell? ⟨k, 0, none⟩ = some (.pointer (some ⟨b, 0, none⟩)) ∧ w'.cell? ⟨w.heap.size, 2, none⟩ = some (.int .i64 ct) ∧ w'.cell? ⟨w.heap.size, 3, none⟩ = some (.string tn)) ((first | with_reducible exact hT0 | with_reducible exact hT4))
      (first | (go_at_call 44; refine HC.mono ?_; rintro en w4 ⟨rfl, hc4, ho4, hs4⟩; have hk4 := ho4.heap hkd nk; have hO4 := ho4.heap hO' nO; have hT4 : w4.cell? ⟨k, 0, none⟩ = some (.pointer (some ⟨b, 0, none⟩)) ∧ w4.cell? ⟨w.heap.size, 2, none⟩ = some (.int .i64 ct) ∧ w4.cell? ⟨w.heap.size, 3, none⟩ = some (.string tn) := ⟨(ship_cells hk4).1, (stepS_cells hO4).2.2.1, (stepS_cells hO4).2.2.2.1⟩))
    all_goals go_wp2
    all_goals exact bodyPost_end (results_none rfl _ _ _) rfl ⟨rfl, by rw [HA.out]; exact hc4, (Only.of_below _ hbA.drew).trans ho4⟩
  · have HA : Hid (c.arm ⟨kd, a, ct, tn⟩ = c) := by unfold ChipS.arm Hid; rw [if_neg h0]
    simp only [StepS.v] at *
    go_enter Tryd.func25, Tryd.ntmps25
    go_wp2
    exact bodyPost_end (results_none rfl _ _ _) rfl ⟨rfl, by rw [HA.out]; exact hc.below (hb1 _), Only.of_below _ (hb1 _)⟩
theorem look_ship {w : World} {k b q : Nat} {L : Log} (H : w.heap[k]? = some (.cells (shipC b (.pointer (some ⟨q, 0, none⟩)) L) 32 (0, 0))) : w.cell? ⟨k, 1, none⟩ = some (.pointer (some ⟨q, 0, none⟩)) := (ship_cells H).2.1
theorem below_drewN (w : World) (n : Nat) : Below w.heap.size w (w.drewN n) := ((Only.refl (fun _ => False) w).drewN n).below (Nat.le_refl _) (fun _ h => h.elim)
/-- What the law keeps of a ship is written anew. -/
theorem Ship.log {B : Nat} {w w' : World} {k b g q : Nat} {c : ChipS} {run : Int} {L L' : Log} (S : Ship B w k b g q c run L) (hk : w'.heap[k]? = some (.cells (shipC b (.pointer (some ⟨q, 0, none⟩)) L') 32 (0, 0))) (ho : Only (fun x => x = k) w w') : Ship B w' k b g q c run L' ∧ FrS B w w' := by
  have nb : b ≠ k := fun e => neH S.s.dv.chip.hb S.s.hk (by decide) e
  have ng : g ≠ k := fun e => neH S.s.dv.chip.hg S.s.hk (by decide) e
  have nq : q ≠ k := fun e => neH S.hq S.s.hk (by decide) e
  have V := S.s.dv
  have k0 : ¬ (0 = k) := by have := S.s.Bk; have := S.s.B1; omega
  exact ⟨⟨⟨hk, ⟨⟨ho.heap V.chip.hb nb, ho.heap V.chip.hg ng, V.chip.len, V.chip.ops0, V.chip.left1, V.chip.left0, V.chip.tn⟩, V.turns.only ho k0, V.b0, V.g0⟩, S.s.Bk, S.s.Bb, S.s.Bg, S.s.B1⟩, ho.heap S.hq nq, S.Bq⟩, FrS.k ho S.s.hk S.s.Bk S.s.lt.2.2.2⟩
/-- What the law knows fits what the device holds. -/
structure Safe (h : HeldS) (G : List ByteArray) (of : ByteArray) (bt fl : Int) : Prop where
  good : ∃ x ∈ G, loadedB h.good = loadedB x
  imgs : ∀ x ∈ G, 0 ≤ verB x ∧ x.size ≤ 120
  trial : h.trial.size ≠ 0 → h.trial = of ∧ bt + h.tries ≤ 3
  bt0 : 0 ≤ bt
  bt3 : bt ≤ 3
  floor : fl ≤ h.floor
theorem own_keep {B : Nat} {w w' : World} {v : Value} {n : Nat} {xs : List Value} (h : w.ownsRow B 9 1 v n xs) (f : FrS B w w') : w'.ownsRow B 9 1 v n xs := by
  refine ⟨h.1, ?_⟩
  rcases h.2 with e | ⟨g, cap, cur, e1, e2, e3, e4⟩
  · exact Or.inl e
  · exact Or.inr ⟨g, cap, cur, e1, e2, f.keep _ _ e3, e4⟩
def rowV (G : List ByteArray) : List Value := G.map Value.string
/-- A ship between two steps. -/
structure Sea (B N M : Nat) (w : World) (k b g q : Nat) (c : ChipS) (run : Int) (L : Log) (G : List ByteArray) (h : HeldS) : Prop where
  S : Ship B w k b g q c run L
  row : w.ownsRow B 9 1 L.gs G.length (rowV G)
  live : Live c
  on : On c.cells h
  safe : Safe h G L.of L.bt L.fl
  rn : L.rn = run
  two : run = 2 → h.trial.size ≠ 0
  ops : c.ops ≤ (N : Int)
  len : G.length ≤ M
/-- A ship in a step, the power perhaps cut. -/
structure Mid (B N M : Nat) (w : World) (k b g q : Nat) (c : ChipS) (run : Int) (L : Log) (G : List ByteArray) (h : HeldS) : Prop where
  S : Ship B w k b g q c run L
  row : w.ownsRow B 9 1 L.gs G.length (rowV G)
  on : On c.cells h
  safe : Safe h G L.of L.bt L.fl
  up : c.dead = false → L.rn = run ∧ (run = 2 → h.trial.size ≠ 0)
  ops : c.ops ≤ (N : Int)
  len : G.length ≤ M
set_option maxRecDepth 100000 in
set_option maxHeartbeats 1000000 in
theorem proud_any (w : World) (B N M k b g q : Nat) (c : ChipS) (run : Int) (L : Log) (G : List ByteArray) (h : HeldS) (A : Sea B N M w k b g q c run L G h) :
    Calls Tryd.prog 24 #[.pointer (some ⟨k, 0, none⟩)] w fun e w' => e = .returned (.bool true) ∧ Sea B N M w' k b g q c run { L with fl := h.floor } G h ∧ FrS B w w' := by
  obtain ⟨hl, hk⟩ := A.on.load
  have HST := state_any w q b g c run h A.S.s.dv A.S.hq hl
  have hst : (stateM h run).v = .agg #[.int .i64 (verB h.good), .int .i64 h.floor, .int .i64 (verB h.trial), .int .i64 h.tries, .int .i64 h.size, .int .i64 (h.got.size : Int), .int .i64 run] := rfl
  rw [hst] at HST
  clear hst
  have himg := hk.img.1
  have hfl := A.safe.floor
  have htr : ¬ 0 ≤ verB h.trial ∨ (0 ≤ verB h.trial ∧ ¬ verB h.trial < h.floor) := by
    by_cases ht : h.trial.size = 0
    · left
      have e := (hk.noTrial ht).1
      rw [e]
      have := ver_none
      omega
    · by_cases h0 : 0 ≤ verB h.trial
      · right
        have := (hk.onTrial ht).2.2.2
        exact ⟨h0, by omega⟩
      · exact Or.inl h0
  have hrn := A.rn
  have d1 := (ship_cells A.S.s.hk).2.1
  have hkk := A.S.s.hk
  generalize verB h.good = vg at *
  generalize verB h.trial = vt at *
  go_enter Tryd.func24, Tryd.ntmps24
  go_upto_region 2 with (go_at_call 14; refine HST.mono ?_; rintro en w1 ⟨rfl, hb1⟩)
  have hbA := hb1.alloc hb1.size (.cells #[.int .i64 vg, .int .i64 h.floor, .int .i64 vt, .int .i64 h.tries, .int .i64 h.size, .int .i64 (h.got.size : Int), .int .i64 run] 44)
  have hN := heap_alloc_new w1 (.cells #[.int .i64 vg, .int .i64 h.floor, .int .i64 vt, .int .i64 h.tries, .int .i64 h.size, .int .i64 (h.got.size : Int), .int .i64 run] 44)
  generalize w1.alloc (.cells #[.int .i64 vg, .int .i64 h.floor, .int .i64 vt, .int .i64 h.tries, .int .i64 h.size, .int .i64 (h.got.size : Int), .int .i64 run] 44) = wz at *
  have hkz := below_heap hbA hkk
  obtain ⟨u0, u1, u2, u3, u4, u5, u6, uf⟩ := ship_cells hkz
  rw [hrn] at u5
  have f0 : wz.cell? ⟨w1.heap.size, 0, none⟩ = some (.int .i64 vg) := by rw [cell_of_heap hN]; rfl
  have f1 : wz.cell? ⟨w1.heap.size, 1, none⟩ = some (.int .i64 h.floor) := by rw [cell_of_heap hN]; rfl
  have f2 : wz.cell? ⟨w1.heap.size, 2, none⟩ = some (.int .i64 vt) := by rw [cell_of_heap hN]; rfl
  have f6 : wz.cell? ⟨w1.heap.size, 6, none⟩ = some (.int .i64 run) := by rw [cell_of_heap hN]; rfl
  have x1 : decide (h.floor < L.fl) = false := by simp; omega
  have x2 : decide (vg < h.floor) = false := by simp; omega
  have hfin : ∀ wy : World, Below wz.heap.size wz wy → Sea B N M (wy.setCell ⟨k, 6, none⟩ (.int .i64 h.floor)) k b g q c run { L with fl := h.floor } G h ∧ FrS B w (wy.setCell ⟨k, 6, none⟩ (.int .i64 h.floor)) := by
    intro wy hy
    obtain ⟨S1, F1⟩ := A.S.below (hbA.trans (hy.mono hbA.size))
    have hk6 : (wy.setCell ⟨k, 6, none⟩ (.int .i64 h.floor)).heap[k]? = some (.cells (shipC b (.pointer (some ⟨q, 0, none⟩)) { L with fl := h.floor }) 32 (0, 0)) := by rw [heap_setCell_at _ _ _ _ _ _ _ S1.s.hk]; rfl
    obtain ⟨S2, F2⟩ := S1.log hk6 (onlyK (Only.refl _ _) 6 _)
    have s := A.safe
    exact ⟨⟨S2, own_keep A.row (F1.trans F2), A.live, A.on, ⟨s.good, s.imgs, s.trial, s.bt0, s.bt3, Int.le_refl _⟩, A.rn, A.two, A.ops, A.len⟩, F1.trans F2⟩
  clear A HST hl hk hkk hkz d1 himg hfl
  rcases htr with ht | ⟨ht, ht2⟩
  · have x3 : decide (0 ≤ vt) = false := by simp; omega
    go_quiet (fail)
    go_wp2
    go_ret
    exact ⟨rfl, hfin _ (below_drewN _ _)⟩
  · have x3 : decide (0 ≤ vt) = true := by simp; omega
    have x4 : decide (vt < h.floor) = false := by simp; omega
    go_quiet (fail)
    go_wp2
    go_ret
    exact ⟨rfl, hfin _ (below_drewN _ _)⟩
end Go.Proofs.YtcokahccbjdeaabDoor
