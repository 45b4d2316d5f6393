import Derived.Test.YtcokahccbjdeaabDoorBts
import Derived.Test.YtcokahccbjdeaabDoorKeeps
import Derived.Test.YtcokahccbjdeaabDoorStM
namespace Go.Proofs.YtcokahccbjdeaabDoor
open Go.RowKit

theorem loaded_ver {s : ByteArray} (h : 0 ≤ verB s) : (loadedB s).1 = verB s ∧ (loadedB s).2.2.size = 128 := by
  unfold loadedB verB verM at *
  cases hu : unpackM s.data.toList with
  | none => rw [hu] at h; simp at h
  | some q =>
    obtain ⟨v, e, rs⟩ := q
    obtain ⟨m, h1, h2, h3, h4⟩ := unpack_mem hu
    simp only [h4]
    exact ⟨trivial, by rw [mk_size]; exact h2.2⟩
set_option maxRecDepth 100000 in
theorem tload_any (w : World) (s : ByteArray) (hs : s.size < 4611686018427387904) :
    Calls Tryd.prog 43 #[.string s] w fun en w' => en = .returned (.tuple #[.agg #[.int .i64 (loadedB s).1, .int .i64 (loadedB s).2.1, .string (loadedB s).2.2], .int .i64 (if verB s < 0 then 6 else 0)]) ∧ Below w.heap.size w w' := by
  have HP := fun wx => load_any wx s hs
  generalize (if verB s < 0 then (6 : Int) else 0) = c at *
  generalize loadedB s = lo at *
  obtain ⟨a, b, d⟩ := lo
  simp only at *
  go_enter Tryd.func43, Tryd.ntmps43
  go_wp2_with (go_at_call 56; refine (HP _).mono ?_; rintro en w2 ⟨rfl, hb2⟩; obtain ⟨_, q0, q1, q2, fz⟩ := three_cells hb2 (heap_alloc_new w _))
  refine bodyPost_ret (v := .tuple #[.agg #[.int .i64 a, .int .i64 b, .string d], .int .i64 c]) (by simp [results, Tryd.results43, go_sem, q0, q1, q2]) rfl ⟨rfl, ?_⟩
  have hbT : Below w.heap.size w w2 := ((Below.refl w.heap.size w).alloc (Nat.le_refl _) _).trans (hb2.mono (by simp))
  exact ((hbT.setCell (Nat.le_refl _) _).setCell (Nat.le_refl _) _).setCell (Nat.le_refl _) _
theorem jumpC_alloc {w : World} {g : Nat} {t : Bool} {a b : Int} {s : ByteArray} (H : w.heap[g]? = some (.cells #[.bool t, .int .i64 a, .int .i64 b, .string s] 54 (0, 0))) :
    (∀ x, (w.alloc x).cell? ⟨g, 0, none⟩ = some (.bool t)) ∧ (∀ x, (w.alloc x).cell? ⟨g, 1, none⟩ = some (.int .i64 a)) ∧ (∀ x, (w.alloc x).cell? ⟨g, 2, none⟩ = some (.int .i64 b)) ∧ (∀ x, (w.alloc x).cell? ⟨g, 3, none⟩ = some (.string s)) ∧ (∀ x o, (w.alloc x).frozen? ⟨g, o, none⟩ = false) := by
  refine ⟨?_, ?_, ?_, ?_, fun x o => free_of_heap (alloc_heap H x)⟩ <;> (intro x; rw [cell_of_heap (alloc_heap H x)]; rfl)
set_option maxRecDepth 100000 in
set_option maxHeartbeats 4000000 in
theorem shows_any (w : World) (t : Bool) (a b : Int) (d s : ByteArray) (hs : s.size < 4611686018427387904) (hv : 0 ≤ verB s) :
    Calls Tryd.prog 27 #[.agg #[.bool t, .int .i64 a, .int .i64 b, .string d], .string s] w fun en w' => en = .returned (.bool (decide (loadedB s = (a, b, d)))) ∧ Below w.heap.size w w' := by
  have HP := fun wx => tload_any wx s hs
  rw [if_neg (by omega)] at HP
  have hz := (loaded_ver hv).2
  generalize loadedB s = lo at *
  obtain ⟨x, y, z⟩ := lo
  simp only at *
  have hzI : (z.size : Int) = 128 := by omega
  have hb1 : ∀ o, Below w.heap.size w (w.alloc o) := fun o => (Below.refl _ _).alloc (Nat.le_refl _) _
  have hend : ∀ w2 o, Below (w.alloc (.cells #[.bool t, .int .i64 a, .int .i64 b, .string d] 54)).heap.size (w.alloc (.cells #[.bool t, .int .i64 a, .int .i64 b, .string d] 54)) w2 → Below w.heap.size w (w2.alloc o) := fun w2 o h => by
    have h1 := (hb1 _).trans (h.mono (by simp))
    exact h1.alloc h1.size o
  by_cases h1 : a = x
  · subst h1
    by_cases h2 : b = y
    · subst h2
      by_cases h3 : d = z
      · subst h3
        go_enter Tryd.func27, Tryd.ntmps27
        go_wp2_with (go_at_call 43; refine (HP _).mono ?_; rintro en w2 ⟨rfl, hb2⟩; obtain ⟨r0, r1, r2, r3, rf⟩ := jumpC_alloc (below_heap hb2 (heap_alloc_new w _)))
        go_ret
        exact ⟨by simp, hend _ _ hb2⟩
      · have hdz : ¬ d.toList = z.toList := fun e => h3 (by
          rw [ByteArray.toList_eq, ByteArray.toList_eq] at e
          exact ByteArray.ext (Array.toList_inj.1 e))
        go_enter Tryd.func27, Tryd.ntmps27
        go_wp2_with (go_at_call 43; refine (HP _).mono ?_; rintro en w2 ⟨rfl, hb2⟩; obtain ⟨r0, r1, r2, r3, rf⟩ := jumpC_alloc (below_heap hb2 (heap_alloc_new w _)))
        go_ret
        exact ⟨by simp [Ne.symm h3], hend _ _ hb2⟩
    · have hby : (b == y) = false := by simp [h2]
      go_enter Tryd.func27, Tryd.ntmps27
      go_wp2_with (go_at_call 43; refine (HP _).mono ?_; rintro en w2 ⟨rfl, hb2⟩; obtain ⟨r0, r1, r2, r3, rf⟩ := jumpC_alloc (below_heap hb2 (heap_alloc_new w _)))
      go_ret
      exact ⟨by simp [Ne.symm h2], hend _ _ hb2⟩
  · have hax : (a == x) = false := by simp [h1]
    go_enter Tryd.func27, Tryd.ntmps27
    go_wp2_with (go_at_call 43; refine (HP _).mono ?_; rintro en w2 ⟨rfl, hb2⟩; obtain ⟨r0, r1, r2, r3, rf⟩ := jumpC_alloc (below_heap hb2 (heap_alloc_new w _)))
    go_ret
    exact ⟨by simp [Ne.symm h1], hend _ _ hb2⟩
theorem piece_ext {s : ByteArray} {L : List UInt8} (h : s = mk L) (j e : Nat) (he : e = min (8 * j + 8) L.length) : s.extract (8 * j) e = mk ((L.drop (8 * j)).take 8) := by
  subst h; exact piece_text L j e he
/-- What is laid onto a chip: pieces of eight bytes, as far as there is room. -/
def laidN (s : ByteArray) : Nat := min 128 ((s.size + 7) / 8)
def laidM (c : ChipS) (s : ByteArray) : ChipS := c.prims (piecesN 0 s.data.toList (laidN s))
set_option maxRecDepth 100000 in
set_option maxHeartbeats 4000000 in
theorem laid_any (w : World) (b g : Nat) (c : ChipS) (s : ByteArray) (hs : s.size < 4611686018427387904) (hops : c.ops < 4611686018427370000) (h : ChipAt w b g c) :
    Calls Tryd.prog 9 #[.pointer (some ⟨b, 0, none⟩), .string s] w fun e w' => e = .returned (.tuple #[]) ∧ ChipAt w' b g (laidM c s) ∧ Only (fun k => k = b ∨ k = g) w w' := by
  obtain ⟨L, hL⟩ : ∃ L, L = s.data.toList := ⟨_, rfl⟩
  have HEs : Hid (s = mk L) := by rw [Hid, hL]; exact (mk_list s).symm
  have HZ : Hid (s.size = L.length) := by rw [Hid, hL, Array.length_toList]; rfl
  have HW : Hid (laidM c s = c.prims (piecesN 0 L (laidN s))) := by rw [Hid, hL]; rfl
  have HN : Hid (laidN s = min 128 ((s.size + 7) / 8)) := rfl
  clear hL
  go_enter Tryd.func9, Tryd.ntmps9
  go_wp2
  go_loopw [4, 5] (fun a e wr => ∃ j : Nat, j ≤ laidN s ∧ a = .int .i64 ((8 * j : Nat) : Int) ∧ ChipAt wr b g (c.prims (piecesN 0 L j)) ∧ Only (fun k => k = b ∨ k = g) w wr) (fun a _ _ => 1032 - (intOf a).toNat)
  case atStart => exact ⟨0, by omega, rfl, h, Only.refl _ _⟩
  case round =>
    obtain ⟨j, hj, rfl, hc, ho⟩ := hrel
    have hN := HN.out
    have hZ := HZ.out
    have hop := (prims_ops c (piecesN 0 L j)).1
    have hpl : (piecesN 0 L j).length = j := by simp [piecesN]
    have hop3 : (c.prims (piecesN 0 L j)).ops < 4611686018427387904 := by omega
    by_cases hlt : j < laidN s
    · have hlt1 : (8 : Int) * j < 1024 := by omega
      have hlt2 : (8 : Int) * j < s.size := by omega
      have HP : ∀ (o : Int) (d : ByteArray), o = (8 * j : Nat) → d = mk ((L.drop (8 * j)).take 8) → Calls Tryd.prog 28 #[.pointer (some ⟨b, 0, none⟩), .int .i64 o, .string d] wr fun e w' => e = .returned (.tuple #[]) ∧ ChipAt w' b g (c.prims (piecesN 0 L (j + 1))) ∧ Only (fun k => k = b ∨ k = g) wr w' := by
        rintro o d rfl rfl
        refine (program_all wr b g _ _ _ (by omega) (by omega) (by rw [mk_size]; simp only [List.length_take]; omega) hc hop3).mono ?_
        rintro e w' ⟨rfl, x1, x2, _⟩
        refine ⟨rfl, ?_, x2⟩
        rw [piecesN_succ, ChipS.prims_append]
        have e0 : (pieceM 0 L j) = .pr (8 * j) ((L.drop (8 * j)).take 8) := by simp [pieceM]
        rw [e0]
        exact x1
      by_cases hend : (s.size : Int) < 8 * j + 8
      · have HX : Hid (s.extract (8 * j) s.size = mk ((L.drop (8 * j)).take 8)) := piece_ext HEs.out j _ (by omega)
        clear hop hpl hop3 hN hZ
        go_wp2_with (go_at_call 28; refine (HP _ _ (by omega) HX.out).mono ?_; rintro en w5 ⟨rfl, hc5, ho5⟩)
        go_roundw
        case rel => exact ⟨j + 1, by omega, by go_num, hc5, ho.trans ho5⟩
        case measure => simp [intOf]; omega
      · have HX : Hid (s.extract (8 * j) (8 * j + 8) = mk ((L.drop (8 * j)).take 8)) := piece_ext HEs.out j _ (by omega)
        clear hop hpl hop3 hN hZ
        go_wp2_with (go_at_call 28; refine (HP _ _ (by omega) HX.out).mono ?_; rintro en w5 ⟨rfl, hc5, ho5⟩)
        go_roundw
        case rel => exact ⟨j + 1, by omega, by go_num, hc5, ho.trans ho5⟩
        case measure => simp [intOf]; omega
    · have hjj : j = laidN s := by omega
      have hfin : ChipAt wr b g (laidM c s) := by rw [HW.out, ← hjj]; exact hc
      by_cases h8 : (8 : Int) * j < 1024
      · have h9 : ¬ (8 : Int) * j < s.size := by omega
        clear hop hpl hop3 hN hZ hjj
        go_wp2
        refine bodyPost_end (results_none rfl _ _ _) rfl ⟨rfl, hfin, ho⟩
      · clear hop hpl hop3 hN hZ hjj
        go_wp2
        refine bodyPost_end (results_none rfl _ _ _) rfl ⟨rfl, hfin, ho⟩
end Go.Proofs.YtcokahccbjdeaabDoor
