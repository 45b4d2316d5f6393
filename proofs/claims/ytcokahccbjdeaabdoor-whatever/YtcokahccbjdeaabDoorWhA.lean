import Derived.Test.YtcokahccbjdeaabDoorCoE
import Derived.Test.YtcokahccbjdeaabDoorStL
import Derived.Test.YtcokahccbjdeaabDoorStN
namespace Go.Proofs.YtcokahccbjdeaabDoor
open Go.RowKit

/-- Whatever bytes lie on a chip: what is read there is lawful. -/
theorem load_ok {cells : List UInt8} {h : HeldS} (e : loadM cells = some h) : h.ok := by
  unfold loadM at e
  split at e
  · cases hn : newestM cells with
    | none => rw [hn] at e; cases e
    | some q =>
      obtain ⟨s, t, h'⟩ := q
      rw [hn] at e
      simp only [Option.map_some, Option.some.injEq] at e
      subst e
      obtain ⟨_, _, hp⟩ := newest_lt hn
      unfold pageM at hp
      split at hp
      · cases hp
      · cases hd : decPage (sectorOf cells s) with
        | none => rw [hd] at hp; cases hp
        | some x =>
          rw [hd] at hp
          simp only [Option.map_some, Option.some.injEq, Prod.mk.injEq] at hp
          obtain ⟨_, rfl⟩ := hp
          unfold decPage at hd
          split at hd
          · cases hd
          · split at hd
            · rename_i hlaw
              simp only [Option.some.injEq] at hd
              subst hd
              refine ⟨hlaw, ?_, ?_, ?_, ?_, ?_⟩
              · show (0 : Int) ≤ 256 * _ + _; omega
              · show (0 : Int) ≤ ((_ : Nat) : Int); omega
              · show (0 : Int) ≤ ((_ : Nat) : Int); omega
              · intro hz
                change (0 : Int) < (((sectorOf cells s).getD 5 0).toNat : Int) at hz
                unfold heldAt
                simp only
                rw [if_pos (by omega)]; rfl
              · intro hz
                change (((sectorOf cells s).getD 5 0).toNat : Int) = 0 at hz
                unfold heldAt
                simp only
                rw [if_neg (by omega)]; rfl
            · cases hd
  · cases e
theorem laid_live (s : ByteArray) : Live (laidM newChip s) ∧ (laidM newChip s).ops ≤ 128 := by
  have hlen : s.data.toList.length = s.size := by rw [Array.length_toList]; rfl
  obtain ⟨L, a, o⟩ := newChiphip_live.prims (piecesN 0 s.data.toList (laidN s)) (by
    intro p hp
    simp only [piecesN, List.mem_map, List.mem_range] at hp
    obtain ⟨j, hj, rfl⟩ := hp
    have hN : laidN s = min 128 ((s.size + 7) / 8) := rfl
    simp only [pieceM, Prim.ok, List.length_take, List.length_drop]
    omega)
  refine ⟨L, ?_⟩
  have := (prims_ops newChip (piecesN 0 s.data.toList (laidN s))).1
  have h0 : newChip.ops = 0 := rfl
  have hl : (piecesN 0 s.data.toList (laidN s)).length = laidN s := by simp [piecesN]
  have hN : laidN s ≤ 128 := by unfold laidN; omega
  unfold laidM
  omega
theorem rel_some {c : ChipS} {x : HeldS} (h : Live c) (hl : loadM c.cells = some x) : Rel c ⟨true, x⟩ := ⟨h, (fun e => by cases e), fun _ => ⟨hl, load_ok hl⟩⟩
theorem rel_none {c : ChipS} (h : Live c) (hl : loadM c.cells = none) : Rel c ⟨false, noHeld⟩ := ⟨h, (fun _ => hl), (fun e => by cases e)⟩
/-- What a call may leave behind: the chip live, with a device, at most 64 operations more. -/
structure After (w w' : World) (b g q : Nat) (c : ChipS) : Prop where
  all : ∃ c' run' x', Left w w' q b g c' run' ∧ Rel c' ⟨true, x'⟩ ∧ ∃ n : Nat, n ≤ 64 ∧ c'.ops = c.ops + n
theorem After.of {w w' : World} {b g q : Nat} {c c' : ChipS} {run' : Int} {r' : RefS} (hL : Left w w' q b g c' run') (R : Rel c' r') (m : r'.made = true) (n : Nat) (hn : n ≤ 64) (ho : c'.ops = c.ops + n) : After w w' b g q c := by
  obtain ⟨md, x⟩ := r'
  simp only at m
  subst m
  exact ⟨c', run', x, hL, R, n, hn, ho⟩
theorem stage_made {r : RefS} (m : r.made = true) (n : Int) : (r.stage n).1.made = true := by unfold RefS.stage; (repeat' split) <;> exact m
theorem write_made {r : RefS} (m : r.made = true) (d : ByteArray) : (r.write d).1.made = true := by unfold RefS.write; (repeat' split) <;> exact m
theorem activate_made {r : RefS} (m : r.made = true) : r.activate.1.made = true := by unfold RefS.activate; (repeat' split) <;> exact m
theorem notDev {w : World} {q b g : Nat} {c : ChipS} {run : Int} (V : Dv w b g c) (hq : w.heap[q]? = some (.cells (devC b run) 66 (0, 0))) : ¬ (q = b ∨ q = g) := by
  rintro (e | e)
  · exact neH hq V.chip.hb (by decide) e
  · exact neH hq V.chip.hg (by decide) e
theorem aft_stage (w : World) (b g q : Nat) (c : ChipS) (run n : Int) (x : HeldS) (V : Dv w b g c) (hq : w.heap[q]? = some (.cells (devC b run) 66 (0, 0))) (R : Rel c ⟨true, x⟩) (ho : c.ops < 4611686018427370000) :
    Calls Tryd.prog 33 #[.pointer (some ⟨q, 0, none⟩), .int .i64 n] w fun e w' => (∃ v : Int, e = .returned (.int .i64 v)) ∧ After w w' b g q c := by
  refine (stage_any w q b g c run n ho V hq R.oks).mono ?_
  rintro e w' ⟨rfl, hc, h⟩
  obtain ⟨_, R', i, hi, oo⟩ := R.stage rfl n
  exact ⟨⟨_, rfl⟩, After.of (Left.chip1 hc (h.heap hq (notDev V hq)) h) R' (stage_made rfl n) i hi oo⟩
theorem aft_write (w : World) (b g q : Nat) (c : ChipS) (run : Int) (d : ByteArray) (x : HeldS) (V : Dv w b g c) (hq : w.heap[q]? = some (.cells (devC b run) 66 (0, 0))) (R : Rel c ⟨true, x⟩) (ho : c.ops < 4611686018427370000) (hd : d.size < 4611686018427387904) :
    Calls Tryd.prog 34 #[.pointer (some ⟨q, 0, none⟩), .string d] w fun e w' => (∃ v : Int, e = .returned (.int .i64 v)) ∧ After w w' b g q c := by
  refine (write_any w q b g c run d hd ho V hq R.oks).mono ?_
  rintro e w' ⟨rfl, hc, h⟩
  obtain ⟨_, R', i, hi, oo⟩ := R.write rfl d
  exact ⟨⟨_, rfl⟩, After.of (Left.chip1 hc (h.heap hq (notDev V hq)) h) R' (write_made rfl d) i hi oo⟩
theorem aft_activate (w : World) (b g q : Nat) (c : ChipS) (run : Int) (x : HeldS) (V : Dv w b g c) (hq : w.heap[q]? = some (.cells (devC b run) 66 (0, 0))) (R : Rel c ⟨true, x⟩) (ho : c.ops < 4611686018427370000) :
    Calls Tryd.prog 36 #[.pointer (some ⟨q, 0, none⟩)] w fun e w' => (∃ v : Int, e = .returned (.int .i64 v)) ∧ After w w' b g q c := by
  refine (activate_any w q b g c run ho V hq R.oks).mono ?_
  rintro e w' ⟨rfl, hc, h⟩
  obtain ⟨_, R', i, hi, oo⟩ := R.activate rfl
  exact ⟨⟨_, rfl⟩, After.of (Left.chip1 hc (h.heap hq (notDev V hq)) h) R' (activate_made rfl) i hi oo⟩
theorem aft_boot (w : World) (b g q : Nat) (c : ChipS) (run : Int) (x : HeldS) (V : Dv w b g c) (hq : w.heap[q]? = some (.cells (devC b run) 66 (0, 0))) (R : Rel c ⟨true, x⟩) (ho : c.ops < 4611686018427370000) :
    Calls Tryd.prog 26 #[.pointer (some ⟨q, 0, none⟩)] w fun e w' => (∃ v : Array Value, e = .returned (.agg v)) ∧ After w w' b g q c := by
  refine (boot_any w q b g c run ho V hq R.oks).mono ?_
  rintro e w' ⟨rfl, hL⟩
  obtain ⟨⟨_, R', i, hi, oo⟩, _, _, _, m⟩ := R.boot rfl run
  exact ⟨⟨_, rfl⟩, After.of hL R' m i hi oo⟩
theorem aft_confirm (w : World) (b g q : Nat) (c : ChipS) (run : Int) (x : HeldS) (V : Dv w b g c) (hq : w.heap[q]? = some (.cells (devC b run) 66 (0, 0))) (R : Rel c ⟨true, x⟩) (ho : c.ops < 4611686018427370000) :
    Calls Tryd.prog 37 #[.pointer (some ⟨q, 0, none⟩)] w fun e w' => (∃ v : Int, e = .returned (.int .i64 v)) ∧ After w w' b g q c := by
  refine (confirm_any w q b g c run ho V hq R.oks).mono ?_
  rintro e w' ⟨rfl, hL⟩
  refine ⟨⟨_, rfl⟩, ?_⟩
  obtain ⟨k1, k2⟩ := R.yes rfl
  unfold confirmM at hL
  rw [k1] at hL
  simp only at hL
  by_cases hc : run ≠ 2 ∨ x.trial.size = 0
  · rw [if_pos hc] at hL
    exact After.of hL R rfl 0 (by omega) (by simp)
  · rw [if_neg hc] at hL
    have ht : x.trial.size ≠ 0 := by omega
    obtain ⟨_, R', i, hi, oo⟩ := R.saved rfl _ (ok_plain _ _ k2.fl (k2.onTrial ht).2.2.2) 0
    exact After.of hL R' rfl i hi oo
theorem aft_raise (w : World) (b g q : Nat) (c : ChipS) (run : Int) (x : HeldS) (V : Dv w b g c) (hq : w.heap[q]? = some (.cells (devC b run) 66 (0, 0))) (R : Rel c ⟨true, x⟩) (ho : c.ops < 4611686018427370000) :
    Calls Tryd.prog 38 #[.pointer (some ⟨q, 0, none⟩)] w fun e w' => (∃ v : Int, e = .returned (.int .i64 v)) ∧ After w w' b g q c := by
  refine (raise_any w q b g c run ho V hq R.oks).mono ?_
  rintro e w' ⟨rfl, hL⟩
  obtain ⟨⟨_, R', i, hi, oo⟩, m⟩ := R.raise rfl
  exact ⟨⟨_, rfl⟩, After.of hL R' m i hi oo⟩
theorem aft_drop (w : World) (b g q : Nat) (c : ChipS) (run : Int) (x : HeldS) (V : Dv w b g c) (hq : w.heap[q]? = some (.cells (devC b run) 66 (0, 0))) (R : Rel c ⟨true, x⟩) (ho : c.ops < 4611686018427370000) :
    Calls Tryd.prog 39 #[.pointer (some ⟨q, 0, none⟩)] w fun e w' => (∃ v : Int, e = .returned (.int .i64 v)) ∧ After w w' b g q c := by
  refine (drop_any w q b g c run ho V hq R.oks).mono ?_
  rintro e w' ⟨rfl, hL⟩
  obtain ⟨⟨_, R', i, hi, oo⟩, _, m⟩ := R.drop rfl run
  exact ⟨⟨_, rfl⟩, After.of hL R' m i hi oo⟩
set_option maxRecDepth 100000 in
set_option maxHeartbeats 1000000 in
theorem callsK_any (w : World) (b g q : Nat) (c : ChipS) (run k : Int) (x : HeldS) (V : Dv w b g c) (hq : w.heap[q]? = some (.cells (devC b run) 66 (0, 0))) (R : Rel c ⟨true, x⟩) (ho : c.ops < 4611686018427370000) (k0 : -9223372036854775808 ≤ k) (k1 : k < 9223372036854775808) :
    Calls Tryd.prog 13 #[.pointer (some ⟨q, 0, none⟩), .int .i64 k] w fun e w' => e = .returned (.tuple #[]) ∧ After w w' b g q c := by
  have HPK : Calls Tryd.prog 32 #[.int .i64 k, .int .i64 1000] w fun e w' => ∃ r : Int, e = .returned (.int .i64 r) ∧ 0 ≤ r ∧ r < 1000 ∧ w' = w := pick_any w k 1000 k0 k1 (by omega) (by omega)
  have HP8 : Calls Tryd.prog 32 #[.int .i64 k, .int .i64 8] w fun e w' => ∃ r : Int, e = .returned (.int .i64 r) ∧ 0 ≤ r ∧ r < 8 ∧ w' = w := pick_any w k 8 k0 k1 (by omega) (by omega)
  have hkeep : After w w b g q c := After.of ⟨V.chip, hq, Only.refl _ _⟩ R rfl 0 (by omega) (by simp)
  have H0 := fun n => aft_stage w b g q c run n x V hq R ho
  have H2 := aft_activate w b g q c run x V hq R ho
  have H3 := aft_boot w b g q c run x V hq R ho
  have H4 := aft_confirm w b g q c run x V hq R ho
  have H5 := aft_raise w b g q c run x V hq R ho
  have H6 := aft_drop w b g q c run x V hq R ho
  have H1 : ∀ (wx : World) (d : ByteArray), d.size < 4611686018427387904 → Below w.heap.size w wx → Calls Tryd.prog 34 #[.pointer (some ⟨q, 0, none⟩), .string d] wx fun e w' => (∃ v : Int, e = .returned (.int .i64 v)) ∧ After w w' b g q c := by
    intro wx d hd hb
    refine (aft_write wx b g q c run d x (V.below hb) (below_heap hb hq) R ho hd).mono ?_
    rintro e w' ⟨he, c', run', x', hL, R', hn⟩
    exact ⟨he, c', run', x', ⟨hL.chip, hL.dev, (Only.of_below _ hb).trans hL.only⟩, R', hn⟩
  clear V hq R ho
  go_enter Tryd.func13, Tryd.ntmps13
  go_wp2_with fail
  refine HPK.mono ?_
  rintro en w1 ⟨r, rfl, r0, r1, hw⟩
  have hw2 := hw.symm
  clear hw
  subst hw2
  go_wp2_with fail
  refine HP8.mono ?_
  rintro en w1 ⟨t, rfl, t0, t1, hw⟩
  have hw2 := hw.symm
  clear hw
  subst hw2
  have ht : t = 0 ∨ t = 1 ∨ t = 2 ∨ t = 3 ∨ t = 4 ∨ t = 5 ∨ t = 6 ∨ t = 7 := by omega
  rcases ht with rfl | rfl | rfl | rfl | rfl | rfl | rfl | rfl
  · go_wp2_with (go_at_call 33; refine (H0 _).mono ?_; rintro en w2 ⟨⟨v, rfl⟩, hA⟩)
    exact bodyPost_end (results_none rfl _ _ _) rfl ⟨rfl, hA⟩
  · have HB := bytes_at w ⟨#[116, 119, 105, 110, 98, 111, 111, 116]⟩ (r / 8) (r / 8 % 10) (by decide) (by omega) (by omega) (by omega) (by omega)
    go_wp2_with (first
      | (go_at_call 35; refine HB.mono ?_; rintro en w2 ⟨d, rfl, hd, hb2⟩)
      | (go_at_call 34; refine (H1 _ d (by omega) hb2).mono ?_; rintro en w3 ⟨⟨v, rfl⟩, hA⟩))
    exact bodyPost_end (results_none rfl _ _ _) rfl ⟨rfl, hA⟩
  · go_wp2_with (go_at_call 36; refine H2.mono ?_; rintro en w2 ⟨⟨v, rfl⟩, hA⟩)
    exact bodyPost_end (results_none rfl _ _ _) rfl ⟨rfl, hA⟩
  · go_wp2_with (go_at_call 26; refine H3.mono ?_; rintro en w2 ⟨⟨v, rfl⟩, hA⟩)
    exact bodyPost_end (results_none rfl _ _ _) rfl ⟨rfl, hA⟩
  · go_wp2_with (go_at_call 37; refine H4.mono ?_; rintro en w2 ⟨⟨v, rfl⟩, hA⟩)
    exact bodyPost_end (results_none rfl _ _ _) rfl ⟨rfl, hA⟩
  · go_wp2_with (go_at_call 38; refine H5.mono ?_; rintro en w2 ⟨⟨v, rfl⟩, hA⟩)
    exact bodyPost_end (results_none rfl _ _ _) rfl ⟨rfl, hA⟩
  · go_wp2_with (go_at_call 39; refine H6.mono ?_; rintro en w2 ⟨⟨v, rfl⟩, hA⟩)
    exact bodyPost_end (results_none rfl _ _ _) rfl ⟨rfl, hA⟩
  · go_wp2
    exact bodyPost_end (results_none rfl _ _ _) rfl ⟨rfl, hkeep⟩
end Go.Proofs.YtcokahccbjdeaabDoor
