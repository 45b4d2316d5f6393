import Derived.Test.YtcokahccbjdeaabDoorAlH
namespace Go.Proofs.YtcokahccbjdeaabDoor
open Go.RowKit

/-- A script, as it lies in memory. -/
def StepsAt (w : World) (b o : Nat) (l : List StepS) : Prop := ∀ (i : Nat) (h : i < l.length),
  w.cell? ⟨b, o + i * 4, none⟩ = some (.int .i64 l[i].kind) ∧ w.cell? ⟨b, o + i * 4 + 1, none⟩ = some (.int .i64 l[i].a) ∧ w.cell? ⟨b, o + i * 4 + 2, none⟩ = some (.int .i64 l[i].cut) ∧ w.cell? ⟨b, o + i * 4 + 3, none⟩ = some (.string l[i].torn)
theorem StepsAt.kept {B : Nat} {w w' : World} {b o : Nat} {l : List StepS} (h : StepsAt w b o l) (hb : b < B) (hbl : Below B w w') : StepsAt w' b o l := by
  intro i hi
  obtain ⟨c0, c1, c2, c3⟩ := h i hi
  exact ⟨(hbl.cell (p := ⟨b, o + i * 4, none⟩) hb).trans c0, (hbl.cell (p := ⟨b, o + i * 4 + 1, none⟩) hb).trans c1, (hbl.cell (p := ⟨b, o + i * 4 + 2, none⟩) hb).trans c2, (hbl.cell (p := ⟨b, o + i * 4 + 3, none⟩) hb).trans c3⟩
/-- The tries that are left to an image on trial. -/
def leftH (h : HeldS) : Int := if h.trial.size ≠ 0 then h.tries else 0
theorem boot_left (h : HeldS) : ((RefS.boot ⟨true, h⟩).2 = 2 ∧ 1 ≤ leftH h ∧ leftH (RefS.boot ⟨true, h⟩).1.h = leftH h - 1) ∨ ((RefS.boot ⟨true, h⟩).2 = 1 ∧ leftH h ≤ 0 ∧ leftH (RefS.boot ⟨true, h⟩).1.h = 0) := by
  unfold RefS.boot leftH
  by_cases hT : h.trial.size ≠ 0 ∧ 0 < h.tries
  · left
    rw [if_pos hT]
    simp only
    rw [if_pos hT.1, if_pos hT.1]
    exact ⟨trivial, by omega, rfl⟩
  · right
    rw [if_neg hT]
    refine ⟨rfl, ?_, by simp [tx_size]⟩
    by_cases h1 : h.trial.size ≠ 0
    · rw [if_pos h1]
      by_cases h2 : 0 < h.tries
      · exact absurd ⟨h1, h2⟩ hT
      · omega
    · rw [if_neg h1]; omega
theorem Mid.sea {B N M : Nat} {w : World} {k b g q : Nat} {c : ChipS} {run : Int} {L : Log} {G : List ByteArray} {h : HeldS} (m : Mid B N M w k b g q c run L G h) (hd : c.dead = false) (ha : c.armed = false) : Sea B N M w k b g q c run L G h :=
  ⟨m.S, m.row, ⟨hd, ha, m.S.s.dv.chip.len⟩, m.on, m.safe, (m.up hd).1, (m.up hd).2, m.ops, m.len⟩
/-- A boot at the end: the power is not cut. -/
theorem last_boot (w : World) (B N M k : Nat) (t : Int) (hN : N ≤ 4611686018427290000) (hM : M < 8000000000000) (A : ∃ b g q c run L G h, Sea B N M w k b g q c run L G h ∧ leftH h ≤ t) :
    Calls Tryd.prog 7 #[.pointer (some ⟨k, 0, none⟩), .agg #[.int .i64 0, .int .i64 0, .int .i64 (-1), .string ⟨#[]⟩]] w fun e w' => e = .returned (.bool true) ∧ (∃ b g q c run L G h, Sea B (N + 64) M w' k b g q c run L G h ∧ (leftH h ≤ t - 1 ∨ leftH h ≤ 0) ∧ (t ≤ 0 → run = 1)) ∧ Below B w w' := by
  obtain ⟨b, g, q, c, run, L, G, h, A, hl⟩ := A
  refine (bootK_any w B N M k b g q c run L G h ⟨0, 0, -1, ⟨#[]⟩⟩ ⟨by show (-9223372036854775808 : Int) ≤ 0; omega, by show (0 : Int) < 9223372036854775808; omega, by show (-9223372036854775808 : Int) ≤ -1; omega, by show (-1 : Int) < 9223372036854775808; omega, by decide⟩ (by omega) hM A).mono ?_
  rintro e w' ⟨rfl, ⟨c', run', L', G', h', m, hc⟩, F⟩
  obtain ⟨e1, e2, e3, e4⟩ := hc (by show (-1 : Int) < 0; omega)
  refine ⟨rfl, ⟨_, _, _, _, _, _, _, _, m.sea e1 e2, ?_, ?_⟩, F.bel⟩
  · rw [e3]
    rcases boot_left h with ⟨_, _, x⟩ | ⟨_, _, x⟩
    · left; omega
    · right; omega
  · intro ht
    rw [e4]
    rcases boot_left h with ⟨_, x, _⟩ | ⟨x, _, _⟩
    · omega
    · exact x
set_option maxRecDepth 100000 in
set_option maxHeartbeats 2000000 in
theorem alive_law (w : World) (a : Option Addr) (b o cap : Nat) (l : List StepS) (ha : l ≠ [] → a = some ⟨b, o, none⟩) (hl : StepsAt w b o l) (hb : l ≠ [] → b < w.heap.size) (hok : ∀ x ∈ l, x.ok) (hlen : l.length ≤ 4000000000000) (hT : TurnsAt w) :
    Calls Tryd.prog 3 #[.slice a l.length cap] w fun e w' => e = .returned (.bool true) ∧ Below w.heap.size w w' := by
  have hpos : 1 ≤ w.heap.size := lt_of_cell hT.t0
  have HL := launchedO_any w w.heap.size hT (Nat.le_refl _) hpos
  have hlenI : (l.length : Int) ≤ 4000000000000 := by omega
  go_enter Tryd.func3, Tryd.ntmps3
  go_wp2_with fail
  refine HL.mono ?_
  rintro en w1 ⟨k, b1, g1, q1, c1, t, m, rfl, S1, R1, on1, hI1, o1, hm1, hBm, hb1⟩
  have hA1 : SeaE w.heap.size 128 1 w1 k := by
    refine ⟨b1, g1, q1, c1, 0, _, [t], bareM t 3, S1, own_one hm1 hBm, R1.live, on1, ⟨⟨t, List.mem_singleton.2 rfl, rfl⟩, ?_, fun e => absurd rfl e, by show (0 : Int) ≤ 0; omega, by show (0 : Int) ≤ 3; omega, by show (3 : Int) ≤ 3; omega⟩, rfl, fun e => by omega, by omega, by simp⟩
    intro x hx
    rw [List.mem_singleton] at hx
    subst hx
    have := hI1.ver; have := hI1.size
    exact ⟨by omega, by omega⟩
  clear S1 R1 on1 hI1 o1 hm1 hBm HL
  go_wp2_with fail
  go_loopw [4, 5] (fun i _ wr => ∃ j : Nat, j ≤ l.length ∧ i = .int .i64 j ∧ SeaE w.heap.size (128 + 9000 * j) (1 + j) wr k ∧ Below w.heap.size w wr) (fun i _ _ => l.length - (intOf i).toNat)
  case atStart => exact ⟨0, by omega, rfl, hA1, hb1⟩
  case round =>
    obtain ⟨j, hj, rfl, hA, hbr⟩ := hrel
    by_cases hlt : j < l.length
    · have hne : l ≠ [] := by intro e; subst e; simp at hlt
      have hltI : (j : Int) < l.length := by omega
      have ha' := ha hne
      subst ha'
      obtain ⟨c0, c1, c2, c3⟩ := hl.kept (hb hne) hbr j hlt
      have hsz := hok l[j] (List.getElem_mem hlt)
      have HS := stepK_any wr w.heap.size (128 + 9000 * j) (1 + j) k l[j] hsz (by omega) (by omega) (by omega) hA
      generalize l[j] = op at *
      obtain ⟨kd, aa, ct, tn⟩ := op
      simp only [StepS.v] at c0 c1 c2 c3 HS
      clear hA hsz
      go_wp2_with (go_at_call 6; refine HS.mono ?_; rintro en w5 ⟨rfl, hA5, hb5⟩)
      go_roundw
      case rel =>
        refine ⟨j + 1, by omega, by go_num, ?_, hbr.trans hb5⟩
        have e1 : 128 + 9000 * (j + 1) = 128 + 9000 * j + 9000 := by omega
        have e2 : 1 + (j + 1) = 1 + j + 1 := by omega
        rw [e1, e2]; exact hA5
      case measure => simp [intOf]; omega
    · have hltI : ¬ (j : Int) < l.length := by omega
      have hA0 : ∃ b g q c run L G h, Sea w.heap.size (128 + 9000 * j) (1 + j) wr k b g q c run L G h ∧ leftH h ≤ 3 := by
        obtain ⟨b2, g2, q2, c2, run2, L2, G2, h2, A2⟩ := hA
        refine ⟨b2, g2, q2, c2, run2, L2, G2, h2, A2, ?_⟩
        have hk2 := A2.on.load.2
        unfold leftH
        by_cases ht : h2.trial.size ≠ 0
        · rw [if_pos ht]; exact (hk2.onTrial ht).2.2.1
        · rw [if_neg ht]; omega
      clear hA hA1
      go_wp2_with fail
      go_loopw [6, 7] (fun i _ w2 => ∃ n : Nat, n ≤ 4 ∧ i = .int .i64 n ∧ (∃ b g q c run L G h, Sea w.heap.size (128 + 9000 * j + 64 * n) (1 + j) w2 k b g q c run L G h ∧ (leftH h ≤ 3 - (n : Int) ∨ leftH h ≤ 0) ∧ (n = 4 → run = 1)) ∧ Below w.heap.size w w2) (fun i _ _ => 4 - (intOf i).toNat)
      case atStart =>
        obtain ⟨b2, g2, q2, c2, run2, L2, G2, h2, A2, x⟩ := hA0
        exact ⟨0, by omega, rfl, ⟨b2, g2, q2, c2, run2, L2, G2, h2, A2, Or.inl (by omega), fun e => by omega⟩, hbr⟩
      case round =>
        obtain ⟨n, hn, rfl, ⟨b2, g2, q2, c2, run2, L2, G2, h2, A2, x, y⟩, hb2⟩ := hrel
        by_cases hn4 : n = 4
        · subst hn4
          have hr1 := y rfl
          have d5 := (ship_cells A2.S.s.hk).2.2.2.2.2.1
          rw [A2.rn, hr1] at d5
          go_wp2
          go_ret
          exact ⟨rfl, hb2⟩
        · have hn3 : (n : Int) ≤ 3 := by omega
          have HB := last_boot _ w.heap.size _ _ k (3 - (n : Int)) (by omega) (by omega) ⟨b2, g2, q2, c2, run2, L2, G2, h2, A2, by omega⟩
          clear A2
          go_wp2_with (go_at_call 7; refine HB.mono ?_; rintro en w5 ⟨rfl, hA5, hb5⟩)
          go_roundw
          case rel =>
            obtain ⟨b3, g3, q3, c3, run3, L3, G3, h3, A3, x3, y3⟩ := hA5
            refine ⟨n + 1, by omega, by go_num, ⟨b3, g3, q3, c3, run3, L3, G3, h3, ?_, ?_, fun e => y3 (by omega)⟩, hb2.trans hb5⟩
            · have e1 : 128 + 9000 * j + 64 * (n + 1) = 128 + 9000 * j + 64 * n + 64 := by omega
              rw [e1]; exact A3
            · rcases x3 with x3 | x3
              · left; omega
              · right; exact x3
          case measure => simp [intOf]; omega
end Go.Proofs.YtcokahccbjdeaabDoor
