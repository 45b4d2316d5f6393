import Derived.Test.YtcokahccbjdeaaaDoorPd
namespace Go.Proofs.YtcokahccbjdeaaaDoor
open Go.RowKit

/-- A script, as it lies in memory. -/
def OpsAt (w : World) (b o : Nat) (l : List OpS) : Prop := ∀ (i : Nat) (h : i < l.length),
  w.cell? ⟨b, o + i * 6, none⟩ = some (.int .i64 l[i].kind) ∧ w.cell? ⟨b, o + i * 6 + 1, none⟩ = some (.int .i64 l[i].n) ∧ w.cell? ⟨b, o + i * 6 + 2, none⟩ = some (.int .i64 l[i].cut) ∧
  w.cell? ⟨b, o + i * 6 + 3, none⟩ = some (.string l[i].s) ∧ w.cell? ⟨b, o + i * 6 + 4, none⟩ = some (.string l[i].torn) ∧ w.cell? ⟨b, o + i * 6 + 5, none⟩ = some (.bool l[i].which)
theorem OpsAt.kept {B : Nat} {w w' : World} {b o : Nat} {l : List OpS} (h : OpsAt w b o l) (hb : b < B) (hbl : Below B w w') : OpsAt w' b o l := by
  intro i hi
  obtain ⟨c0, c1, c2, c3, c4, c5⟩ := h i hi
  exact ⟨(hbl.cell (p := ⟨b, o + i * 6, none⟩) hb).trans c0, (hbl.cell (p := ⟨b, o + i * 6 + 1, none⟩) hb).trans c1, (hbl.cell (p := ⟨b, o + i * 6 + 2, none⟩) hb).trans c2, (hbl.cell (p := ⟨b, o + i * 6 + 3, none⟩) hb).trans c3, (hbl.cell (p := ⟨b, o + i * 6 + 4, none⟩) hb).trans c4, (hbl.cell (p := ⟨b, o + i * 6 + 5, none⟩) hb).trans c5⟩
theorem Tryd.info47 : (Tryd.prog.info? 47).map (fun i => (i.zero, i.size, i.bytes)) = some (some (.pointer none), 1, 8) := by kernel_rfl
theorem row_one {w : World} {base : Nat} {v p : Value} (h : w.ownsRow base 47 1 v 1 [p]) : ∃ R cap x, v = .slice (some ⟨R, 0, none⟩) 1 cap ∧ w.heap[R]? = some (.cells x 47 (0, 0)) ∧ x[0]? = some p ∧ 1 ≤ cap ∧ base ≤ R := by
  rcases h.2 with ⟨_, h0⟩ | ⟨g, cap', cur, hv, hg, hh, h1, h2, h3, h4⟩
  · omega
  · refine ⟨g, cap', cur, hv, hh, ?_, h1, hg⟩
    have e : cur.toList.take 1 = [p] := h4
    rw [← Array.getElem?_toList]
    have := congrArg (fun l => l[0]?) e
    simpa using this
set_option maxRecDepth 100000 in
set_option maxHeartbeats 8000000 in
theorem play_any (most : Int) (w : World) (a : Option Addr) (b o cap : Nat) (l : List OpS) (ha : l ≠ [] → a = some ⟨b, o, none⟩) (hl : OpsAt w b o l) (hb : l ≠ [] → b < w.heap.size) (hok : ∀ x ∈ l, x.s.size < 4611686018427387904) (hlen : l.length < 72057594037927000) (hT : TurnsAt w)
    (ST : ∀ (wx : World) (N k : Nat) (x : OpS), Good w.heap.size N wx k → N < 4611686018427360000 → 64 ≤ N → x.s.size < 4611686018427387904 → ¬ (most < x.kind ∧ x.kind < 10) → Calls Tryd.prog 16 #[.pointer (some ⟨k, 0, none⟩), x.v, .bool false] wx fun e w' => e = .returned (.bool true) ∧ Good w.heap.size (N + 64) w' k ∧ Fr w.heap.size wx w')
    (EN : ∀ (wx : World) (N k : Nat) (j : Int), Good w.heap.size N wx k → N < 4611686018427360000 → 128 ≤ N → (j = 0 ∨ j = 1 ∨ j = 2) → Calls Tryd.prog 17 #[.pointer (some ⟨k, 0, none⟩), .int .i64 j, .int .i64 most, .bool false] wx fun e w' => e = .returned (.bool true) ∧ Good w.heap.size (N + 64) w' k ∧ Fr w.heap.size wx w') :
    Calls Tryd.prog 6 #[.slice a l.length cap, .int .i64 1, .int .i64 most, .bool false] w fun e w' => e = .returned (.bool true) ∧ Below w.heap.size w w' := by
  have hpos : 1 ≤ w.heap.size := lt_of_cell hT.t0
  have HB := begun_any w w.heap.size hT (Nat.le_refl _) hpos
  obtain ⟨i0, hi, hz0, hz1, hz2⟩ := info_parts Tryd.info47
  have hlenI : (l.length : Int) < 72057594037927000 := by omega
  go_enter Tryd.func6, Tryd.ntmps6
  go_wp2
  refine wp_loop_rounds 2 ?_
  rw [rounds_succ]
  go_wp2_with (first
    | (go_at_call 15; refine HB.mono ?_; rintro en w1 ⟨k, rfl, hG1, hb1⟩)
    | (at_builtin; refine wpList_append_own _ rfl _ _ 46 rfl w.heap.size 47 i0 _ 1 8 Tryd.underlying46 hi hz0 hz1 hz2 rfl (by decide) (.slice none 0 0) 0 [] rfl ⟨by simp, Or.inl ⟨rfl, rfl⟩⟩ ⟨w1.heap.size, 0, none⟩ 1 1 [.pointer (some ⟨k, 0, none⟩)] rfl rfl ?c1 ?c2 ?c3 ?c4 ?c5 ?_))
  case c1 => exact cells_new1 w1 _ _ _ rfl
  case c2 => intro u hu; simp at hu; subst hu; rfl
  case c3 => unfold maxLen; omega
  case c4 => omega
  case c5 => have := hb1.size; simp; omega
  intro v' w3 hown hgr _
  have hbA : Below w1.heap.size w1 w3 := ((Below.refl _ _).alloc (Nat.le_refl _) _).grown hgr (by simp) (by intro x hx; cases hx)
  obtain ⟨R, cp, xs, rfl, hR, hx0, hcp, hBR⟩ := row_one hown
  have hG3 : Good w.heap.size 128 w3 k := by
    obtain ⟨b', g', m', c', d', run', r', I⟩ := hG1
    exact ⟨b', g', m', c', d', run', r', I.D.below hbA, I.rel, I.dm, I.ops, I.hg, I.runs⟩
  have hb3 : Below w.heap.size w w3 := hb1.trans (hbA.mono hb1.size)
  have hF : ∀ {wx : World}, Fr w.heap.size w3 wx → wx.heap[R]? = some (.cells xs 47 (0, 0)) := fun h => h.keep _ _ hR
  have hC : ∀ {wx : World}, Fr w.heap.size w3 wx → wx.cell? ⟨R, 0, none⟩ = some (.pointer (some ⟨k, 0, none⟩)) := fun h => by rw [cell_of_heap (hF h)]; exact hx0
  clear hown hgr hG1 HB hi hz0 hz1 hz2
  have hcpI : (1 : Int) ≤ cp := by omega
  go_wp2
  rw [rounds_succ]
  go_wp2
  go_loopw [11, 12, 13] (fun i _ _ wr => ∃ j : Nat, j ≤ l.length ∧ i = .int .i64 j ∧ Good w.heap.size (128 + 64 * j) wr k ∧ Fr w.heap.size w3 wr) (fun i _ _ _ => l.length - (intOf i).toNat)
  case atStart => exact ⟨0, by omega, rfl, hG3, Fr.refl _ _⟩
  case round =>
    obtain ⟨j, hj, rfl, hG, hFr⟩ := hrel
    by_cases hlt : j < l.length
    · have hne : l ≠ [] := by intro e; subst e; simp at hlt
      have hltI : (j : Int) < l.length := by omega
      have ha' := ha hne
      subst ha'
      obtain ⟨c0, c1, c2, c3, c4, c5⟩ := hl.kept (hb hne) (hb3.trans hFr.bel) j hlt
      have hsz := hok l[j] (List.getElem_mem hlt)
      generalize l[j] = op at *
      obtain ⟨kd, n, ct, s, tn, wh⟩ := op
      simp only at c0 c1 c2 c3 c4 c5 hsz
      have cR := hC hFr
      by_cases hskip : most < kd ∧ kd < 10
      · obtain ⟨hs1, hs2⟩ := hskip
        have hG' := hG.up (show 128 + 64 * j ≤ 128 + 64 * (j + 1) by omega)
        clear hG
        go_wp2
        go_roundw
        case rel => exact ⟨j + 1, by omega, by go_num, hG', hFr⟩
        case measure => simp [intOf]; omega
      · have HS := ST wr (128 + 64 * j) k ⟨kd, n, ct, s, tn, wh⟩ hG (by omega) (by omega) hsz hskip
        have hup : ∀ wx, Good w.heap.size (128 + 64 * j + 64) wx k → Good w.heap.size (128 + 64 * (j + 1)) wx k := fun wx G => G.up (by omega)
        simp only [OpS.v] at HS
        clear hG
        by_cases h5 : most < kd
        · have h10 : ¬ kd < 10 := fun e => hskip ⟨h5, e⟩
          clear hskip
          cases wh
          · go_wp2_with (go_at_call 16; refine HS.mono ?_; rintro en w5 ⟨rfl, hG5, hF5⟩)
            go_roundw
            case rel => exact ⟨j + 1, by omega, by go_num, hup _ hG5, hFr.trans hF5⟩
            case measure => simp [intOf]; omega
          · go_wp2_with (go_at_call 16; refine HS.mono ?_; rintro en w5 ⟨rfl, hG5, hF5⟩)
            go_roundw
            case rel => exact ⟨j + 1, by omega, by go_num, hup _ hG5, hFr.trans hF5⟩
            case measure => simp [intOf]; omega
        · clear hskip
          cases wh
          · go_wp2_with (go_at_call 16; refine HS.mono ?_; rintro en w5 ⟨rfl, hG5, hF5⟩)
            go_roundw
            case rel => exact ⟨j + 1, by omega, by go_num, hup _ hG5, hFr.trans hF5⟩
            case measure => simp [intOf]; omega
          · go_wp2_with (go_at_call 16; refine HS.mono ?_; rintro en w5 ⟨rfl, hG5, hF5⟩)
            go_roundw
            case rel => exact ⟨j + 1, by omega, by go_num, hup _ hG5, hFr.trans hF5⟩
            case measure => simp [intOf]; omega
    · have hltI : ¬ (j : Int) < l.length := by omega
      have E0 := EN wr (128 + 64 * j) k 0 hG (by omega) (by omega) (by omega)
      have E1 := fun wx (G : Good w.heap.size (128 + 64 * j + 64) wx k) => EN wx (128 + 64 * j + 64) k 1 G (by omega) (by omega) (by omega)
      have E2 := fun wx (G : Good w.heap.size (128 + 64 * j + 64 + 64) wx k) => EN wx (128 + 64 * j + 64 + 64) k 2 G (by omega) (by omega) (by omega)
      have cR := hC hFr
      clear hG
      go_wp2
      refine wp_loop_rounds 2 ?_
      rw [rounds_succ]
      go_wp2
      refine wp_loop_rounds 4 ?_
      rw [rounds_succ]
      go_wp2_with (go_at_call 17; refine E0.mono ?_; rintro en w5 ⟨rfl, hG5, hF5⟩; have cR5 := hC (hFr.trans hF5))
      rw [rounds_succ]
      go_wp2_with (go_at_call 17; refine (E1 _ hG5).mono ?_; rintro en w6 ⟨rfl, hG6, hF6⟩; have cR6 := hC ((hFr.trans hF5).trans hF6))
      rw [rounds_succ]
      go_wp2_with (go_at_call 17; refine (E2 _ hG6).mono ?_; rintro en w7 ⟨rfl, hG7, hF7⟩)
      rw [rounds_succ]
      go_wp2
      rw [rounds_succ]
      go_wp2
      go_ret
      exact ⟨rfl, hb3.trans (((hFr.trans hF5).trans hF6).trans hF7).bel⟩
set_option maxRecDepth 100000 in
theorem takes_law (w : World) (a : Option Addr) (b o cap : Nat) (l : List OpS) (ha : l ≠ [] → a = some ⟨b, o, none⟩) (hl : OpsAt w b o l) (hb : l ≠ [] → b < w.heap.size) (hok : ∀ x ∈ l, x.s.size < 4611686018427387904) (hlen : l.length < 72057594037927000) (hT : TurnsAt w) :
    Calls Tryd.prog 3 #[.slice a l.length cap] w fun e w' => e = .returned (.bool true) ∧ Below w.heap.size w w' := by
  have HP := play_any 5 w a b o cap l ha hl hb hok hlen hT
    (fun wx N k x G h1 h2 h3 h4 => step_any wx w.heap.size N k x G h1 h2 h3 (by omega))
    (fun wx N k j G _ h2 h3 => by
      rcases h3 with rfl | rfl | rfl
      · exact (ended_plain wx w.heap.size N k 0 G (by omega)).mono fun _ _ h => ⟨h.1, h.2.1.up (by omega), h.2.2⟩
      · exact ended_move wx w.heap.size N k G h2
      · exact (ended_plain wx w.heap.size N k 2 G (by omega)).mono fun _ _ h => ⟨h.1, h.2.1.up (by omega), h.2.2⟩)
  go_enter Tryd.func3, Tryd.ntmps3
  go_wp2_with (go_at_call 6; refine HP.mono ?_; rintro en w2 ⟨rfl, hb2⟩)
  go_ret
  exact ⟨rfl, hb2⟩
end Go.Proofs.YtcokahccbjdeaaaDoor
