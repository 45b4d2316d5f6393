import Derived.Test.YtcokahccbjdeaaaDoorRefs
import Derived.Deep.AppendLies
import Derived.Deep.RegionHeld3
import Derived.Deep.QuietTactic
import Derived.BigQuiet
namespace Go.Proofs.YtcokahccbjdeaaaDoor
open Go.RowKit

/-- k runs read from byte 'at0' on: the runs, and where they end -/
def parseK (t : List UInt8) (at0 : Nat) : Nat → Option (List Seg × Nat)
  | 0 => some ([], at0)
  | k + 1 => match parseK t at0 k with
    | none => none
    | some (rs, p) => if t.length < p + 3 then none else if t.length < p + 3 + (t.getD (p + 2) 0).toNat then none else
      some (rs ++ [⟨((t.getD p 0).toNat : Int), ((t.getD (p + 1) 0).toNat : Int), mk ((t.drop (p + 3)).take (t.getD (p + 2) 0).toNat)⟩], p + 3 + (t.getD (p + 2) 0).toNat)

theorem parseK_none (t : List UInt8) (at0 k n : Nat) (h : parseK t at0 k = none) (hk : k ≤ n) : parseK t at0 n = none := by
  induction n with
  | zero => have : k = 0 := by omega
            subst this; exact h
  | succ n ih =>
    by_cases e : k = n + 1
    · subst e; exact h
    · simp [parseK, ih (by omega)]
theorem parseK_len (t : List UInt8) (at0 k : Nat) : ∀ {rs : List Seg} {p : Nat}, parseK t at0 k = some (rs, p) → rs.length = k ∧ (p ≤ t.length ∨ k = 0) := by
  induction k with
  | zero => intro rs p h; simp [parseK] at h; simp [← h.1]
  | succ k ih =>
    intro rs p h
    simp only [parseK] at h
    split at h
    · cases h
    · rename_i rs' p' h'
      split at h
      · cases h
      · split at h
        · cases h
        · simp at h
          obtain ⟨rfl, rfl⟩ := h
          have := ih h'
          refine ⟨by rw [List.length_append, this.1]; rfl, Or.inl (by simp only [List.getD_eq_getElem?_getD] at *; omega)⟩

theorem extract_mk (s : ByteArray) (a b : Nat) : s.extract a b = mk ((s.data.toList.drop a).take (b - a)) := by
  apply ByteArray.ext
  rw [ByteArray.data_extract]
  apply Array.ext'
  rw [Array.toList_extract]
  simp [mk, List.extract_eq_take_drop]

theorem run_idx (wx : World) (s : ByteArray) (i : Nat) (h : i < s.size) (I : Int) (hI : I = i) : (Instr.index 9 (.string s) (.int .i64 I)).run Tryd.prog wx = .ok (.int .u8 (s[i].toNat : Int)) wx := by
  subst hI
  rw [run_index_string _ 9 s .i64 _ Tryd.underlying9, dif_pos (by omega)]
  rfl
theorem run_sub (wx : World) (s : ByteArray) (a b : Nat) (h1 : a ≤ b) (h2 : b ≤ s.size) (A B : Int) (hA : A = a) (hB : B = b) : (Instr.slice 9 (.string s) (some (.int .i64 A)) (some (.int .i64 B)) none).run Tryd.prog wx = .ok (.string (s.extract a b)) wx := by
  subst hA hB
  have := run_slice_string (P := Tryd.prog) wx 9 s .i64 .i64 a b Tryd.underlying9 (by omega) (by omega) (by omega)
  simpa using this

set_option maxRecDepth 100000 in
set_option maxHeartbeats 4000000 in
theorem decodeRuns_any (w : World) (s : ByteArray) (count : Nat) (hs : s.size ≤ 1073741824) (hc : count ≤ 255) :
    Calls Tryd.prog 94 #[.string s, .int .i64 count] w fun e w' => (∀ rs p, parseK s.data.toList 0 count = some (rs, p) → ∃ v, e = .returned (.tuple #[v, .bool true]) ∧ w'.ownsRow w.heap.size 59 3 v rs.length (segCells rs)) ∧ (parseK s.data.toList 0 count = none → e = .returned (.tuple #[.slice none 0 0, .bool false])) ∧ Below w.heap.size w w' := by
  obtain ⟨i0, hi, hz0, hz1, hz2⟩ := info_parts Tryd.info59
  obtain ⟨t, ht⟩ : ∃ t, t = s.data.toList := ⟨_, rfl⟩
  have HT : Hid (t = s.data.toList) := ht
  have htl : t.length = s.size := by rw [ht]; rfl
  rw [← ht]
  clear ht
  go_enter Tryd.func94, Tryd.ntmps94
  go_wp2
  go_loopw [4, 5, 6, 7, 8, 9, 10] (fun _ _ v a i _ _ wr => ∃ k : Nat, k ≤ count ∧ i = .int .i64 k ∧ ∃ (rs : List Seg) (p : Nat), Hid (parseK t 0 k = some (rs, p)) ∧ p ≤ s.size ∧ a = .int .i64 p ∧ Hid (rs.length = k) ∧ wr.ownsRow w.heap.size 59 3 v rs.length (segCells rs) ∧ Below w.heap.size w wr) (fun _ _ _ _ i _ _ _ => count - (intOf i).toNat)
  case atStart => exact ⟨0, by omega, rfl, [], 0, rfl, by omega, rfl, rfl, World.ownsRow_nil _ _ _ _, Below.refl _ _⟩
  case round =>
    obtain ⟨k, hk, rfl, rs, p, hpk, hp, rfl, hrl, hown, hbel⟩ := hrel
    by_cases hlt : k < count
    · have hltI : (k : Int) < count := by omega
      by_cases h1 : s.size < p + 3
      · have h1' : (s.size : Int) < (p : Int) + 3 := by omega
        have hnone : Hid (parseK t 0 count = none) := by
          apply parseK_none t 0 (k + 1) count _ (by omega)
          simp only [parseK, hpk.out]; rw [if_pos (by omega)]
        go_wp2
        go_ret2
        refine ⟨fun rs p h => ?_, fun _ => rfl, hbel⟩
        rw [hnone.out] at h; cases h
      · have h1' : (p : Int) + 3 ≤ s.size := by omega
        have hb2 : p + 2 < s.size := by omega
        have hg2 : Hid (t.getD (p + 2) 0 = s[p + 2]) := by unfold Hid; rw [HT.out]; exact ba_getD s _ hb2
        have hb2' : (s[p + 2].toNat : Int) < 256 := by have := s[p + 2].toNat_lt; omega
        by_cases h2 : s.size < p + 3 + s[p + 2].toNat
        · have h2' : (s.size : Int) < (p : Int) + 3 + s[p + 2].toNat := by omega
          have hnone : Hid (parseK t 0 count = none) := by
            apply parseK_none t 0 (k + 1) count _ (by omega)
            simp only [parseK, hpk.out]; rw [if_neg (by omega), hg2.out, if_pos (by omega)]
          clear HT hg2
          go_wp2
          go_ret2
          refine ⟨fun rs p h => ?_, fun _ => rfl, hbel⟩
          rw [hnone.out] at h; cases h
        · have h2' : (p : Int) + 3 + s[p + 2].toNat ≤ s.size := by omega
          have hb0 : p < s.size := by omega
          have hb1 : p + 1 < s.size := by omega
          have hb0' : (s[p].toNat : Int) < 256 := by have := s[p].toNat_lt; omega
          have hb1' : (s[p + 1].toNat : Int) < 256 := by have := s[p + 1].toNat_lt; omega
          have hsome : Hid (parseK t 0 (k + 1) = some (rs ++ [⟨(s[p].toNat : Int), (s[p + 1].toNat : Int), s.extract (p + 3) (p + 3 + s[p + 2].toNat)⟩], p + 3 + s[p + 2].toNat)) := by
            unfold Hid
            simp only [parseK, hpk.out]
            rw [if_neg (by omega), hg2.out, if_neg (by omega), extract_mk, HT.out, ba_getD s p hb0, ba_getD s (p + 1) hb1, Nat.add_sub_cancel_left]
          have hsg : Hid (segCells (rs ++ [⟨(s[p].toNat : Int), (s[p + 1].toNat : Int), s.extract (p + 3) (p + 3 + s[p + 2].toNat)⟩]) = segCells rs ++ [.int .i64 (s[p].toNat : Int), .int .i64 (s[p + 1].toNat : Int), .string (s.extract (p + 3) (p + 3 + s[p + 2].toNat))]) := by
            unfold Hid; rw [segCells_append]; rfl
          have hpI : (p : Int) < s.size := by omega
          have hpI1 : (p : Int) + 1 < s.size := by omega
          have hl1 : rs.length + 1 ≤ 255 := by have := hrl.out; omega
          have X0 := fun wx => run_idx wx s p hb0 (p : Int) rfl
          have X1 := fun wx => run_idx wx s (p + 1) hb1 ((p : Int) + 1) (by omega)
          have X2 := fun wx => run_sub wx s (p + 3) (p + 3 + s[p + 2].toNat) (by omega) (by omega) ((p : Int) + 3) ((p : Int) + 3 + s[p + 2].toNat) (by omega) (by omega)
          clear hg2 hpk HT h1 h2
          go_wp2
          have hp10 : (0 : Int) ≤ (p : Int) + 1 := by omega
          have hp30 : (0 : Int) ≤ (p : Int) + 3 := by omega
          have hp31 : (p : Int) + 3 ≤ (p : Int) + 3 + s[p + 2].toNat := by omega
          have hwr : IntKind.i64.wrap ((p : Int) + 1) = (p : Int) + 1 := by rw [IntKind.wrap_i64]; omega
          have hw0 : IntKind.i64.wrap (s[p].toNat : Int) = (s[p].toNat : Int) := by rw [IntKind.wrap_i64]; omega
          have hw1 : IntKind.i64.wrap (s[p + 1].toNat : Int) = (s[p + 1].toNat : Int) := by rw [IntKind.wrap_i64]; omega
          go_region_held3 (fun _ => True) (trivial)
            ((refine step_append_lies _ (by rfl) _ _ 61 (by rfl) w.heap.size 59 i0 _ 3 32 Tryd.underlying61 hi hz0 hz1 hz2 rfl (by decide) _ _ _ (by rfl) (World.ownsRow.drew (hown.alloc _)) ⟨wr.heap.size, 0, none⟩ 1 1 [.int .i64 (s[p].toNat : Int), .int .i64 (s[p + 1].toNat : Int), .string (s.extract (p + 3) (p + 3 + s[p + 2].toNat))] (by rfl) rfl (fun j u h => cells_new1 wr _ _ _ rfl j u h) (by intro u hu; simp at hu; rcases hu with rfl | rfl | rfl <;> rfl) (by decide) (by unfold maxLen; omega) (by omega) (by have := hbel.size; simp; omega) (wr.heap.size + 1) (by simp) ?_; intro g cap w1 hown1 hgrow hat hlt2))
          all_goals
            have hbl4 : Below w.heap.size w w1 := ((hbel.alloc hbel.size _).drew).grown hgrow (by have := hbel.size; simp; omega) (own_lt hown)
            rw [← hsg.out] at hown1
            clear hgrow hown hbel X0 X1 X2
            go_wp2
            go_roundw
            case rel => exact ⟨k + 1, by omega, by go_num, _, _, hsome, by omega, by go_num, by unfold Hid; rw [List.length_append, hrl.out]; rfl, by rw [List.length_append]; exact hown1, hbl4⟩
            case measure => simp [intOf]; omega
    · have hkc : k = count := by omega
      subst hkc
      go_wp2
      go_ret2
      refine ⟨fun rs' p' h => ?_, fun h => ?_, hbel⟩
      · rw [hpk.out] at h
        obtain ⟨rfl, rfl⟩ := Prod.mk.inj (Option.some.inj h)
        exact ⟨_, rfl, hown⟩
      · rw [hpk.out] at h; cases h
end Go.Proofs.YtcokahccbjdeaaaDoor

namespace Go.Proofs.YtcokahccbjdeaaaDoor
open Go.RowKit

def decM (l : List UInt8) : Option (Int × Int × List Seg) :=
  if l.length < 8 ∨ 120 < l.length then none
  else match parseK ((l.drop 6).take (l.length - 8)) 0 (l.getD 5 0).toNat with
    | none => none
    | some (rs, _) => some (256 * ((l.getD 2 0).toNat : Int) + (l.getD 3 0).toNat, ((l.getD 4 0).toNat : Int), rs)

theorem decodeRuns_none (w : World) (s : ByteArray) (count : Nat) (hs : s.size ≤ 1073741824) (hc : count ≤ 255) (h : parseK s.data.toList 0 count = none) :
    Calls Tryd.prog 94 #[.string s, .int .i64 count] w fun e w' => e = .returned (.tuple #[.slice none 0 0, .bool false]) ∧ Below w.heap.size w w' :=
  (decodeRuns_any w s count hs hc).mono fun _ _ hh => ⟨hh.2.1 h, hh.2.2⟩
theorem decodeRuns_some (w : World) (s : ByteArray) (count : Nat) (rs : List Seg) (p : Nat) (hs : s.size ≤ 1073741824) (hc : count ≤ 255) (h : parseK s.data.toList 0 count = some (rs, p)) :
    Calls Tryd.prog 94 #[.string s, .int .i64 count] w fun e w' => ∃ (a : Option Addr) (cap : Nat), e = .returned (.tuple #[.slice a rs.length cap, .bool true]) ∧ w'.ownsRow w.heap.size 59 3 (.slice a rs.length cap) rs.length (segCells rs) ∧ Below w.heap.size w w' := by
  refine (decodeRuns_any w s count hs hc).mono fun e w' hh => ?_
  obtain ⟨v, rfl, hown⟩ := hh.1 rs p h
  obtain ⟨_, a, _, cap, rfl, _⟩ := SegsAt_of_own hown
  exact ⟨a, cap, rfl, hown, hh.2.2⟩

theorem ownsRow_mono {w : World} {base base' : Nat} {e : TypeId} {size : Nat} {v : Value} {n : Nat} {xs : List Value} (h : w.ownsRow base e size v n xs) (hb : base' ≤ base) : w.ownsRow base' e size v n xs := by
  refine ⟨h.1, ?_⟩
  rcases h.2 with h2 | ⟨g, cap, cur, hv, hg, r⟩
  · exact Or.inl h2
  · exact Or.inr ⟨g, cap, cur, hv, Nat.le_trans hb hg, r⟩
theorem ba_ext {a b : ByteArray} (h : a.toList = b.toList) : a = b := by
  rw [ByteArray.toList_eq, ByteArray.toList_eq] at h
  apply ByteArray.ext
  exact Array.toList_inj.1 h
/-- a block of three cells that a later world still holds -/
theorem three_cells {w w2 : World} {g : Nat} {x y z : Value} {t : TypeId} (hb : Below w.heap.size w w2) (hg : w.heap[g]? = some (.cells #[x, y, z] t (0, 0))) :
    w2.heap[g]? = some (.cells #[x, y, z] t (0, 0)) ∧ w2.cell? ⟨g, 0, none⟩ = some x ∧ w2.cell? ⟨g, 1, none⟩ = some y ∧ w2.cell? ⟨g, 2, none⟩ = some z ∧ ∀ o, w2.frozen? ⟨g, o, none⟩ = false := by
  have h2 : w2.heap[g]? = some (.cells #[x, y, z] t (0, 0)) := by rw [hb.block g (Array.getElem?_eq_some_iff.1 hg).1]; exact hg
  exact ⟨h2, by rw [cell_of_heap h2]; rfl, by rw [cell_of_heap h2]; rfl, by rw [cell_of_heap h2]; rfl, fun o => free_of_heap h2⟩

set_option maxRecDepth 100000 in
set_option maxHeartbeats 4000000 in
theorem decode_none (w : World) (s : ByteArray) (hs : s.size < 4611686018427387904) (h : decM s.data.toList = none) :
    Calls Tryd.prog 80 #[.string s] w fun e w' => e = .returned (.tuple #[.agg #[.int .i64 0, .int .i64 0, .slice none 0 0], .bool false]) ∧ Below w.heap.size w w' := by
  have hll : s.data.toList.length = s.size := rfl
  by_cases h1 : s.size < 8
  · have h1' : (s.size : Int) < 8 := by omega
    clear h hll
    go_enter Tryd.func80, Tryd.ntmps80
    go_wp2
    refine bodyPost_ret (v := .tuple #[.agg #[.int .i64 0, .int .i64 0, .slice none 0 0], .bool false]) (by simp [results, Tryd.results80, go_sem]) rfl ⟨rfl, ?_⟩
    exact (Below.refl _ _).alloc (Nat.le_refl _) _
  by_cases h2 : 120 < s.size
  · have h1' : ¬ (s.size : Int) < 8 := by omega
    have h2' : 120 < (s.size : Int) := by omega
    clear h hll
    go_enter Tryd.func80, Tryd.ntmps80
    go_wp2
    refine bodyPost_ret (v := .tuple #[.agg #[.int .i64 0, .int .i64 0, .slice none 0 0], .bool false]) (by simp [results, Tryd.results80, go_sem]) rfl ⟨rfl, ?_⟩
    exact (Below.refl _ _).alloc (Nat.le_refl _) _
  · have h5 : 5 < s.size := by omega
    have hpn : parseK (s.extract 6 (s.size - 2)).data.toList 0 s[5].toNat = none := by
      unfold decM at h
      rw [hll, if_neg (by omega), ba_getD s 5 h5] at h
      rw [extract_mk, mk_data, show s.size - 2 - 6 = s.size - 8 by omega]
      cases hx : parseK ((s.data.toList.drop 6).take (s.size - 8)) 0 s[5].toNat with
      | none => rfl
      | some q => rw [hx] at h; cases h
    have hc5 : s[5].toNat ≤ 255 := by have := s[5].toNat_lt; omega
    have HD := fun wx => decodeRuns_none wx (s.extract 6 (s.size - 2)) s[5].toNat (by rw [extract_mk, mk_size]; simp; omega) hc5 hpn
    have X5 := fun wx => run_idx wx s 5 h5 (5 : Int) rfl
    have XS := fun wx => run_sub wx s 6 (s.size - 2) (by omega) (by omega) (6 : Int) ((s.size : Int) - 2) (by omega) (by omega)
    obtain ⟨ex, hex⟩ : ∃ ex, ex = s.extract 6 (s.size - 2) := ⟨_, rfl⟩
    rw [← hex] at HD XS
    clear hex hpn h hll
    have h1' : ¬ (s.size : Int) < 8 := by omega
    have h2' : ¬ 120 < (s.size : Int) := by omega
    have h51 : (5 : Int) < s.size := by omega
    have hw5 : IntKind.i64.wrap (s[5].toNat : Int) = (s[5].toNat : Int) := by rw [IntKind.wrap_i64]; omega
    have hws : IntKind.i64.wrap ((s.size : Int) - 2) = (s.size : Int) - 2 := by rw [IntKind.wrap_i64]; omega
    go_enter Tryd.func80, Tryd.ntmps80
    go_wp2
    go_region_held3 (fun _ => True) (trivial)
      (first
        | (go_at_call 94; refine (HD _).mono ?_; rintro en w2 ⟨rfl, hb2⟩))
    obtain ⟨_, q0, q1, q2, fz⟩ := three_cells hb2 (heap_alloc_new w _)
    have hbT : Below w.heap.size w w2 := ((Below.refl w.heap.size w).alloc (Nat.le_refl _) _).drew.trans (hb2.mono (by simp))
    go_wp2
    refine bodyPost_ret (v := .tuple #[.agg #[.int .i64 0, .int .i64 0, .slice none 0 0], .bool false]) (by simp [results, Tryd.results80, go_sem, q0, q1, q2]) rfl ⟨rfl, ?_⟩
    exact ((hbT.setCell (Nat.le_refl _) _).setCell (Nat.le_refl _) _).setCell (Nat.le_refl _) _

set_option maxRecDepth 100000 in
set_option maxHeartbeats 4000000 in
theorem decode_some (w : World) (s : ByteArray) (v e : Int) (rs : List Seg) (h : decM s.data.toList = some (v, e, rs)) :
    Calls Tryd.prog 80 #[.string s] w fun en w' => ∃ (a : Option Addr) (cap : Nat), en = .returned (.tuple #[.agg #[.int .i64 v, .int .i64 e, .slice a rs.length cap], .bool true]) ∧ w'.ownsRow w.heap.size 59 3 (.slice a rs.length cap) rs.length (segCells rs) ∧ Below w.heap.size w w' := by
  have hll : s.data.toList.length = s.size := rfl
  unfold decM at h
  split at h
  · cases h
  rename_i hnb
  rw [hll] at hnb
  have h5 : 5 < s.size := by omega
  have g2 : 2 < s.size := by omega
  have g3 : 3 < s.size := by omega
  have g4 : 4 < s.size := by omega
  rw [hll, ba_getD s 5 h5, ba_getD s 2 g2, ba_getD s 3 g3, ba_getD s 4 g4] at h
  cases hx : parseK ((s.data.toList.drop 6).take (s.size - 8)) 0 s[5].toNat with
  | none => rw [hx] at h; cases h
  | some q =>
    obtain ⟨rs', p⟩ := q
    rw [hx] at h
    simp only [Option.some.injEq, Prod.mk.injEq] at h
    obtain ⟨rfl, rfl, rfl⟩ := h
    have hpn : parseK (s.extract 6 (s.size - 2)).data.toList 0 s[5].toNat = some (rs', p) := by
      rw [extract_mk, mk_data, show s.size - 2 - 6 = s.size - 8 by omega]; exact hx
    have hc5 : s[5].toNat ≤ 255 := by have := s[5].toNat_lt; omega
    have HD := fun wx => decodeRuns_some wx (s.extract 6 (s.size - 2)) s[5].toNat rs' p (by rw [extract_mk, mk_size]; simp; omega) hc5 hpn
    have XS := fun wx => run_sub wx s 6 (s.size - 2) (by omega) (by omega) (6 : Int) ((s.size : Int) - 2) (by omega) (by omega)
    obtain ⟨ex, hex⟩ : ∃ ex, ex = s.extract 6 (s.size - 2) := ⟨_, rfl⟩
    rw [← hex] at HD XS
    clear hex hpn hll hx
    have h1' : ¬ (s.size : Int) < 8 := by omega
    have h2' : ¬ 120 < (s.size : Int) := by omega
    have h51 : (5 : Int) < s.size := by omega
    have h21 : (2 : Int) < s.size := by omega
    have h31 : (3 : Int) < s.size := by omega
    have h41 : (4 : Int) < s.size := by omega
    have hw5 : IntKind.i64.wrap (s[5].toNat : Int) = (s[5].toNat : Int) := by rw [IntKind.wrap_i64]; omega
    have hws : IntKind.i64.wrap ((s.size : Int) - 2) = (s.size : Int) - 2 := by rw [IntKind.wrap_i64]; omega
    have b2 := s[2].toNat_lt
    have b3 := s[3].toNat_lt
    have b4 := s[4].toNat_lt
    go_enter Tryd.func80, Tryd.ntmps80
    go_wp2
    go_region_held3 (fun _ => True) (trivial)
      (first
        | (go_at_call 94; refine (HD _).mono ?_; rintro en w2 ⟨a, cap, rfl, hown, hb2⟩))
    obtain ⟨hg2, q0, q1, q2, fz⟩ := three_cells hb2 (heap_alloc_new w _)
    have hbT : Below w.heap.size w w2 := ((Below.refl w.heap.size w).alloc (Nat.le_refl _) _).drew.trans (hb2.mono (by simp))
    have HG : Hid (w2.heap[w.heap.size]? = some (.cells #[.int .i64 0, .int .i64 0, .slice none 0 0] 135 (0, 0))) := hg2
    have HOWN : Hid (w2.ownsRow (w.heap.size + 1) 59 3 (.slice a rs'.length cap) rs'.length (segCells rs')) := by unfold Hid; simpa using hown
    clear hg2 hown hb2
    have u2 : IntKind.i64.wrap (s[2].toNat : Int) = (s[2].toNat : Int) := by rw [IntKind.wrap_i64]; omega
    have u3 : IntKind.i64.wrap (s[3].toNat : Int) = (s[3].toNat : Int) := by rw [IntKind.wrap_i64]; omega
    have u4 : IntKind.i64.wrap (s[4].toNat : Int) = (s[4].toNat : Int) := by rw [IntKind.wrap_i64]; omega
    have u5 : IntKind.i64.wrap (256 * (s[2].toNat : Int)) = 256 * (s[2].toNat : Int) := by rw [IntKind.wrap_i64]; omega
    have u6 : IntKind.i64.wrap (256 * (s[2].toNat : Int) + (s[3].toNat : Int)) = 256 * (s[2].toNat : Int) + (s[3].toNat : Int) := by rw [IntKind.wrap_i64]; omega
    go_wp2
    go_region
    all_goals go_wp2
    refine bodyPost_ret (v := .tuple #[.agg #[.int .i64 (256 * (s[2].toNat : Int) + (s[3].toNat : Int)), .int .i64 (s[4].toNat : Int), .slice a rs'.length cap], .bool true]) (by simp [results, Tryd.results80, go_sem, q0, q1, q2]) rfl ⟨a, cap, rfl, ?_, ?_⟩
    · exact ownsRow_mono (World.ownsRow.drew (ownsRow_setCell_below (ownsRow_setCell_below (ownsRow_setCell_below HOWN.out (by simp) _) (by simp) _) (by simp) _)) (by omega)
    · exact (((hbT.setCell (Nat.le_refl _) _).setCell (Nat.le_refl _) _).setCell (Nat.le_refl _) _).drew

def unpackM (l : List UInt8) : Option (Int × Int × List Seg) :=
  match decM l with
  | none => none
  | some (v, e, rs) => if packM v e rs = (l, 0) then some (v, e, rs) else none

theorem decM_ok {l : List UInt8} {v e : Int} {rs : List Seg} (h : decM l = some (v, e, rs)) : (∀ s ∈ rs, s.ok) ∧ rs.length ≤ 255 ∧ l.length ≤ 120 := by
  unfold decM at h
  split at h
  · cases h
  · rename_i hn
    split at h
    · cases h
    · rename_i rs' p hp
      simp only [Option.some.injEq, Prod.mk.injEq] at h
      obtain ⟨rfl, rfl, rfl⟩ := h
      refine ⟨?_, ?_, by omega⟩
      · have key : ∀ k q p', parseK ((l.drop 6).take (l.length - 8)) 0 k = some (q, p') → ∀ s ∈ q, s.ok := by
          intro k
          induction k with
          | zero => intro q p' h s hs; simp [parseK] at h; rw [h.1] at hs; cases hs
          | succ k ih =>
            intro q p' h s hs
            simp only [parseK] at h
            split at h
            · cases h
            · rename_i q0 p0 h0
              split at h
              · cases h
              · split at h
                · cases h
                · obtain ⟨rfl, rfl⟩ := Prod.mk.inj (Option.some.inj h)
                  rcases List.mem_append.1 hs with hs | hs
                  · exact ih _ _ h0 s hs
                  · simp only [List.mem_singleton] at hs
                    subst hs
                    have t1 := (((l.drop 6).take (l.length - 8)).getD p0 0).toNat_lt
                    have t2 := (((l.drop 6).take (l.length - 8)).getD (p0 + 1) 0).toNat_lt
                    have t3 : (mk ((((l.drop 6).take (l.length - 8)).drop (p0 + 3)).take (((l.drop 6).take (l.length - 8)).getD (p0 + 2) 0).toNat)).size ≤ 120 := by
                      rw [mk_size]; simp only [List.length_take, List.length_drop]; omega
                    refine ⟨?_, ?_, ?_, ?_, ?_⟩ <;> dsimp only <;> omega
        exact key _ _ _ hp
      · have := (parseK_len _ _ _ hp).1
        have := (l.getD 5 0).toNat_lt
        omega

theorem results_tmp4 {fn : Func} {t u v x : Tmp} (h : fn.results = #[.tmp t, .tmp u, .tmp v, .tmp x]) (tmps : Array Value) (P : Program) (w : World) :
    (results fn tmps).run P w = .ok (.tuple #[tmps.getD t undef, tmps.getD u undef, tmps.getD v undef, tmps.getD x undef]) w := by
  simp [results, h]

set_option maxRecDepth 100000 in
set_option maxHeartbeats 4000000 in
theorem unpack_none (w : World) (s : ByteArray) (hs : s.size < 4611686018427387904) (h : unpackM s.data.toList = none) :
    Calls Tryd.prog 48 #[.string s] w fun e w' => e = .returned (.tuple #[.int .i64 0, .int .i64 0, .slice none 0 0, .int .i64 6]) ∧ Below w.heap.size w w' := by
  cases hd : decM s.data.toList with
  | none =>
    have HD := decode_none w s hs hd
    clear hd h
    go_enter Tryd.func48, Tryd.ntmps48
    go_wp2_with (go_at_call 80; refine HD.mono ?_; rintro en w2 ⟨rfl, hb2⟩)
    refine bodyPost_ret (results_tmp4 rfl _ _ _) rfl ⟨rfl, ?_⟩
    exact hb2.alloc hb2.size _
  | some q =>
    obtain ⟨v, e, rs⟩ := q
    have HD := decode_some w s v e rs hd
    have hok := decM_ok hd
    have hne : packM v e rs ≠ (s.data.toList, 0) := by
      unfold unpackM at h
      rw [hd] at h
      intro hp
      simp [hp] at h
    have HP : ∀ (w3 : World) (a : Option Addr) (cap : Nat) (base : Nat), w3.ownsRow base 59 3 (.slice a rs.length cap) rs.length (segCells rs) → Calls Tryd.prog 47 #[.int .i64 v, .int .i64 e, .slice a rs.length cap] w3 fun en w' => en = .returned (.tuple #[.string (mk (packM v e rs).1), .int .i64 (packM v e rs).2]) ∧ Below w3.heap.size w3 w' := by
      intro w3 a cap base hown
      obtain ⟨_, a1, b1, cap1, he, r1, r2, r3, _, _⟩ := SegsAt_of_own hown
      cases he
      exact pack_any w3 v e a b1 0 cap rs r1 r2 hok.1 (fun h => (r3 h).1) (by omega)
    have hne2 : (packM v e rs).2 = 0 → ¬ (mk (packM v e rs).1).toList = s.toList := by
      intro h0 h1
      apply hne
      refine Prod.ext ?_ h0
      have h2 : mk (packM v e rs).1 = s := ba_ext h1
      rw [← h2, mk_data]
    clear hd h hne hok
    obtain ⟨r1, hr1⟩ : ∃ r, r = (packM v e rs).1 := ⟨_, rfl⟩
    obtain ⟨r2, hr2⟩ : ∃ r, r = (packM v e rs).2 := ⟨_, rfl⟩
    rw [← hr1, ← hr2] at HP hne2
    clear hr1 hr2
    generalize mk r1 = q1 at *
    by_cases h0 : r2 = 0
    · have hn := hne2 h0
      subst h0
      have hn' : (q1.toList == s.toList) = false := by simpa using hn
      go_enter Tryd.func48, Tryd.ntmps48
      go_wp2_with (first
        | (go_at_call 80; refine HD.mono ?_; rintro en w2 ⟨a, cap, rfl, hown, hb2⟩)
        | (go_at_call 47; refine (HP _ a cap _ (hown.alloc _)).mono ?_; rintro en w3 ⟨rfl, hb3⟩))
      refine bodyPost_ret (results_tmp4 rfl _ _ _) rfl ⟨rfl, ?_⟩
      exact (hb2.alloc hb2.size _).trans (hb3.mono (by have := hb2.size; simp; omega))
    · have h0' : (r2 == 0) = false := by simpa using h0
      go_enter Tryd.func48, Tryd.ntmps48
      go_wp2_with (first
        | (go_at_call 80; refine HD.mono ?_; rintro en w2 ⟨a, cap, rfl, hown, hb2⟩)
        | (go_at_call 47; refine (HP _ a cap _ (hown.alloc _)).mono ?_; rintro en w3 ⟨rfl, hb3⟩))
      refine bodyPost_ret (results_tmp4 rfl _ _ _) rfl ⟨rfl, ?_⟩
      exact (hb2.alloc hb2.size _).trans (hb3.mono (by have := hb2.size; simp; omega))

set_option maxRecDepth 100000 in
set_option maxHeartbeats 4000000 in
theorem unpack_some (w : World) (s : ByteArray) (v e : Int) (rs : List Seg) (h : unpackM s.data.toList = some (v, e, rs)) :
    Calls Tryd.prog 48 #[.string s] w fun en w' => ∃ (a : Option Addr) (cap : Nat), en = .returned (.tuple #[.int .i64 v, .int .i64 e, .slice a rs.length cap, .int .i64 0]) ∧ w'.ownsRow w.heap.size 59 3 (.slice a rs.length cap) rs.length (segCells rs) ∧ Below w.heap.size w w' := by
  unfold unpackM at h
  cases hd : decM s.data.toList with
  | none => rw [hd] at h; cases h
  | some q =>
    obtain ⟨v', e', rs'⟩ := q
    rw [hd] at h
    dsimp only at h
    split at h
    · rename_i hp
      simp only [Option.some.injEq, Prod.mk.injEq] at h
      obtain ⟨rfl, rfl, rfl⟩ := h
      have HD := decode_some w s v' e' rs' hd
      have hok := decM_ok hd
      have HP : ∀ (w3 : World) (a : Option Addr) (cap : Nat) (base : Nat), w3.ownsRow base 59 3 (.slice a rs'.length cap) rs'.length (segCells rs') → Calls Tryd.prog 47 #[.int .i64 v', .int .i64 e', .slice a rs'.length cap] w3 fun en w' => en = .returned (.tuple #[.string s, .int .i64 0]) ∧ Below w3.heap.size w3 w' := by
        intro w3 a cap base hown
        obtain ⟨_, a1, b1, cap1, he, r1, r2, r3, _, _⟩ := SegsAt_of_own hown
        cases he
        have := pack_any w3 v' e' a b1 0 cap rs' r1 r2 hok.1 (fun h => (r3 h).1) (by omega)
        rw [hp] at this
        dsimp only at this
        rwa [mk_list] at this
      clear hd hp hok
      go_enter Tryd.func48, Tryd.ntmps48
      go_wp2_with (first
        | (go_at_call 80; refine HD.mono ?_; rintro en w2 ⟨a, cap, rfl, hown, hb2⟩)
        | (go_at_call 47; refine (HP _ a cap _ (hown.alloc _)).mono ?_; rintro en w3 ⟨rfl, hb3⟩; obtain ⟨_, q0, q1, q2, fz⟩ := three_cells hb3 (heap_alloc_new w2 _)))
      go_region
      all_goals go_wp2
      refine bodyPost_ret (results_tmp4 rfl _ _ _) rfl ⟨a, cap, rfl, ?_, ?_⟩
      · exact World.ownsRow.drew (ownsRow_below (hown.alloc _) hb3)
      · exact ((hb2.alloc hb2.size _).trans (hb3.mono (by have := hb2.size; simp; omega))).drew
    · cases h
end Go.Proofs.YtcokahccbjdeaaaDoor

namespace Go.Proofs.YtcokahccbjdeaaaDoor
open Go.RowKit

def unpackR (l : List UInt8) : Option (Int × Int × List Seg) :=
  if l.length < 6 then none
  else match parseK l 6 (l.getD 5 0).toNat with
    | none => none
    | some (rs, _) => if packM (((l.getD 2 0).toNat : Int) * (256 : Int) + (l.getD 3 0).toNat) ((l.getD 4 0).toNat : Int) rs = (l, 0) then some (((l.getD 2 0).toNat : Int) * (256 : Int) + (l.getD 3 0).toNat, ((l.getD 4 0).toNat : Int), rs) else none

theorem parseK_ok (t : List UInt8) (at0 : Nat) : ∀ k q p', parseK t at0 k = some (q, p') → ∀ s ∈ q, s.ok := by
  intro k
  induction k with
  | zero => intro q p' h s hs; simp [parseK] at h; rw [h.1] at hs; cases hs
  | succ k ih =>
    intro q p' h s hs
    simp only [parseK] at h
    split at h
    · cases h
    · rename_i q0 p0 h0
      split at h
      · cases h
      · split at h
        · cases h
        · obtain ⟨rfl, rfl⟩ := Prod.mk.inj (Option.some.inj h)
          rcases List.mem_append.1 hs with hs | hs
          · exact ih _ _ h0 s hs
          · simp only [List.mem_singleton] at hs
            subst hs
            have t1 := (t.getD p0 0).toNat_lt
            have t2 := (t.getD (p0 + 1) 0).toNat_lt
            have t4 := (t.getD (p0 + 2) 0).toNat_lt
            have t3 : (mk ((t.drop (p0 + 3)).take (t.getD (p0 + 2) 0).toNat)).size ≤ 256 := by
              rw [mk_size]; simp only [List.length_take, List.length_drop]; omega
            refine ⟨?_, ?_, ?_, ?_, ?_⟩ <;> dsimp only <;> omega

set_option maxRecDepth 100000 in
set_option maxHeartbeats 8000000 in
theorem refUnpack_any (w : World) (s : ByteArray) (hs : s.size < 4611686018427387904) :
    Calls Tryd.prog 88 #[.string s] w fun en w' => (unpackR s.data.toList = none → en = .returned (.tuple #[.int .i64 0, .int .i64 0, .slice none 0 0, .int .i64 6])) ∧ (∀ v e rs, unpackR s.data.toList = some (v, e, rs) → ∃ (a : Option Addr) (cap : Nat), en = .returned (.tuple #[.int .i64 v, .int .i64 e, .slice a rs.length cap, .int .i64 0]) ∧ w'.ownsRow w.heap.size 59 3 (.slice a rs.length cap) rs.length (segCells rs)) ∧ Below w.heap.size w w' := by
  obtain ⟨i0, hi, hz0, hz1, hz2⟩ := info_parts Tryd.info59
  obtain ⟨t, ht⟩ : ∃ t, t = s.data.toList := ⟨_, rfl⟩
  have HT : Hid (t = s.data.toList) := ht
  have htl : t.length = s.size := by rw [ht]; rfl
  rw [← ht]
  clear ht
  by_cases h6 : s.size < 6
  · have h6' : (s.size : Int) < 6 := by omega
    have hun : Hid (unpackR t = none) := by unfold unpackR Hid; rw [if_pos (by omega)]
    go_enter Tryd.func88, Tryd.ntmps88
    go_wp2
    refine bodyPost_ret (results_tmp4 rfl _ _ _) rfl ⟨fun _ => rfl, fun v e rs h => ?_, Below.refl _ _⟩
    rw [hun.out] at h; cases h
  · have h6' : ¬ (s.size : Int) < 6 := by omega
    have h5 : 5 < s.size := by omega
    have g2 : 2 < s.size := by omega
    have g3 : 3 < s.size := by omega
    have g4 : 4 < s.size := by omega
    have h51 : (5 : Int) < s.size := by omega
    have h21 : (2 : Int) < s.size := by omega
    have h31 : (3 : Int) < s.size := by omega
    have h41 : (4 : Int) < s.size := by omega
    have b2 := s[2].toNat_lt
    have b3 := s[3].toNat_lt
    have b4 := s[4].toNat_lt
    have b5 := s[5].toNat_lt
    obtain ⟨V, hV⟩ : ∃ V : Int, V = (s[2].toNat : Int) * (256 : Int) + (s[3].toNat : Int) := ⟨_, rfl⟩
    obtain ⟨E, hE⟩ : ∃ E : Int, E = (s[4].toNat : Int) := ⟨_, rfl⟩
    have HV : Hid (V = (s[2].toNat : Int) * (256 : Int) + (s[3].toNat : Int)) := hV
    have HE : Hid (E = (s[4].toNat : Int)) := hE
    have hun : unpackR t = (match parseK t 6 (t.getD 5 0).toNat with
      | none => none
      | some (rs, _) => if packM V E rs = (t, 0) then some (V, E, rs) else none) := by
      have e2 : (t.getD 2 0) = s[2] := by rw [HT.out]; exact ba_getD s 2 g2
      have e3 : (t.getD 3 0) = s[3] := by rw [HT.out]; exact ba_getD s 3 g3
      have e4 : (t.getD 4 0) = s[4] := by rw [HT.out]; exact ba_getD s 4 g4
      unfold unpackR
      rw [if_neg (by omega), e2, e3, e4, hV, hE]
    have e5 : (t.getD 5 0) = s[5] := by rw [HT.out]; exact ba_getD s 5 h5
    rw [e5] at hun
    have HU1 : Hid (parseK t 6 s[5].toNat = none → unpackR t = none) := fun h => by rw [hun, h]
    have HU2 : Hid (∀ rs p, parseK t 6 s[5].toNat = some (rs, p) → packM V E rs = (t, 0) → unpackR t = some (V, E, rs)) := fun rs p h hp => by rw [hun, h]; dsimp only; rw [if_pos hp]
    have HU3 : Hid (∀ rs p, parseK t 6 s[5].toNat = some (rs, p) → packM V E rs ≠ (t, 0) → unpackR t = none) := fun rs p h hp => by rw [hun, h]; dsimp only; rw [if_neg hp]
    clear hV hE hun e5
    have ww4 : IntKind.i64.wrap (s[4].toNat : Int) = (s[4].toNat : Int) := by rw [IntKind.wrap_i64]; omega
    have HC : Hid (s[5].toNat ≤ 255) := by unfold Hid; omega
    have ww2 : IntKind.i64.wrap (s[2].toNat : Int) = (s[2].toNat : Int) := by rw [IntKind.wrap_i64]; omega
    have ww3 : IntKind.i64.wrap (s[3].toNat : Int) = (s[3].toNat : Int) := by rw [IntKind.wrap_i64]; omega
    have ww5 : IntKind.i64.wrap ((s[2].toNat : Int) * (256 : Int)) = (s[2].toNat : Int) * (256 : Int) := by rw [IntKind.wrap_i64]; omega
    have ww6 : IntKind.i64.wrap ((s[2].toNat : Int) * (256 : Int) + (s[3].toNat : Int)) = (s[2].toNat : Int) * (256 : Int) + (s[3].toNat : Int) := by rw [IntKind.wrap_i64]; omega
    go_enter Tryd.func88, Tryd.ntmps88
    go_wp2
    go_region
    all_goals go_wp2
    go_loopw [2, 3, 4, 5, 8, 9, 10, 11] (fun _ _ _ _ v a i _ wr => ∃ k : Nat, k ≤ s[5].toNat ∧ i = .int .i64 k ∧ ∃ (rs : List Seg) (p : Nat), Hid (parseK t 6 k = some (rs, p)) ∧ p ≤ s.size ∧ a = .int .i64 p ∧ Hid (rs.length = k) ∧ wr.ownsRow w.heap.size 59 3 v rs.length (segCells rs) ∧ Below w.heap.size w wr) (fun _ _ _ _ _ _ i _ _ => s[5].toNat - (intOf i).toNat)
    case atStart => exact ⟨0, by omega, rfl, [], 6, rfl, by omega, rfl, rfl, World.ownsRow_nil _ _ _ _, (Below.refl _ _).drew⟩
    case round =>
      obtain ⟨k, hk, rfl, rs, p, hpk, hp, rfl, hrl, hown, hbel⟩ := hrel
      have ww55 : IntKind.i64.wrap (s[5].toNat : Int) = (s[5].toNat : Int) := by rw [IntKind.wrap_i64]; omega
      by_cases hlt : k < s[5].toNat
      · have hltI : (k : Int) < (s[5].toNat : Int) := by omega
        by_cases h1 : s.size < p + 3
        · have h1' : (s.size : Int) < (p : Int) + 3 := by omega
          have hnone : Hid (unpackR t = none) := by
            apply HU1.out
            apply parseK_none t 6 (k + 1) _ _ (by omega)
            simp only [parseK, hpk.out]; rw [if_pos (by omega)]
          go_wp2
          refine bodyPost_ret (results_tmp4 rfl _ _ _) rfl ⟨fun _ => rfl, fun v e rs h => ?_, hbel⟩
          rw [hnone.out] at h; cases h
        · have h1' : (p : Int) + 3 ≤ s.size := by omega
          have hb2 : p + 2 < s.size := by omega
          have hg2 : Hid (t.getD (p + 2) 0 = s[p + 2]) := by unfold Hid; rw [HT.out]; exact ba_getD s _ hb2
          have hb2' : (s[p + 2].toNat : Int) < 256 := by have := s[p + 2].toNat_lt; omega
          by_cases h2 : s.size < p + 3 + s[p + 2].toNat
          · have h2' : (s.size : Int) < (p : Int) + 3 + s[p + 2].toNat := by omega
            have hnone : Hid (unpackR t = none) := by
              apply HU1.out
              apply parseK_none t 6 (k + 1) _ _ (by omega)
              simp only [parseK, hpk.out]; rw [if_neg (by omega), hg2.out, if_pos (by omega)]
            clear hg2
            go_wp2
            refine bodyPost_ret (results_tmp4 rfl _ _ _) rfl ⟨fun _ => rfl, fun v e rs h => ?_, hbel⟩
            rw [hnone.out] at h; cases h
          · have h2' : (p : Int) + 3 + s[p + 2].toNat ≤ s.size := by omega
            have hb0 : p < s.size := by omega
            have hb1 : p + 1 < s.size := by omega
            have hb0' : (s[p].toNat : Int) < 256 := by have := s[p].toNat_lt; omega
            have hb1' : (s[p + 1].toNat : Int) < 256 := by have := s[p + 1].toNat_lt; omega
            have hsome : Hid (parseK t 6 (k + 1) = some (rs ++ [⟨(s[p].toNat : Int), (s[p + 1].toNat : Int), s.extract (p + 3) (p + 3 + s[p + 2].toNat)⟩], p + 3 + s[p + 2].toNat)) := by
              unfold Hid
              simp only [parseK, hpk.out]
              rw [if_neg (by omega), hg2.out, if_neg (by omega), extract_mk, HT.out, ba_getD s p hb0, ba_getD s (p + 1) hb1, Nat.add_sub_cancel_left]
            have hsg : Hid (segCells (rs ++ [⟨(s[p].toNat : Int), (s[p + 1].toNat : Int), s.extract (p + 3) (p + 3 + s[p + 2].toNat)⟩]) = segCells rs ++ [.int .i64 (s[p].toNat : Int), .int .i64 (s[p + 1].toNat : Int), .string (s.extract (p + 3) (p + 3 + s[p + 2].toNat))]) := by
              unfold Hid; rw [segCells_append]; rfl
            have hpI : (p : Int) < s.size := by omega
            have hpI1 : (p : Int) + 1 < s.size := by omega
            have hl1 : rs.length + 1 ≤ 255 := by have := hrl.out; have := HC.out; omega
            have X0 := fun wx => run_idx wx s p hb0 (p : Int) rfl
            have X1 := fun wx => run_idx wx s (p + 1) hb1 ((p : Int) + 1) (by omega)
            have X2 := fun wx => run_sub wx s (p + 3) (p + 3 + s[p + 2].toNat) (by omega) (by omega) ((p : Int) + 3) ((p : Int) + 3 + s[p + 2].toNat) (by omega) (by omega)
            clear hg2 hpk h1 h2 HU1 HU2 HU3
            go_wp2
            have hp10 : (0 : Int) ≤ (p : Int) + 1 := by omega
            have hp30 : (0 : Int) ≤ (p : Int) + 3 := by omega
            have hp31 : (p : Int) + 3 ≤ (p : Int) + 3 + s[p + 2].toNat := by omega
            have hwr : IntKind.i64.wrap ((p : Int) + 1) = (p : Int) + 1 := by rw [IntKind.wrap_i64]; omega
            have hwr3 : IntKind.i64.wrap ((p : Int) + 3) = (p : Int) + 3 := by rw [IntKind.wrap_i64]; omega
            have hwr4 : IntKind.i64.wrap ((p : Int) + 3 + s[p + 2].toNat) = (p : Int) + 3 + s[p + 2].toNat := by rw [IntKind.wrap_i64]; omega
            have hw0 : IntKind.i64.wrap (s[p].toNat : Int) = (s[p].toNat : Int) := by rw [IntKind.wrap_i64]; omega
            have hw1 : IntKind.i64.wrap (s[p + 1].toNat : Int) = (s[p + 1].toNat : Int) := by rw [IntKind.wrap_i64]; omega
            go_region_held3 (fun _ => True) (trivial)
              ((refine step_append_lies _ (by rfl) _ _ 61 (by rfl) w.heap.size 59 i0 _ 3 32 Tryd.underlying61 hi hz0 hz1 hz2 rfl (by decide) _ _ _ (by rfl) (World.ownsRow.drew (hown.alloc _)) ⟨wr.heap.size, 0, none⟩ 1 1 [.int .i64 (s[p].toNat : Int), .int .i64 (s[p + 1].toNat : Int), .string (s.extract (p + 3) (p + 3 + s[p + 2].toNat))] (by rfl) rfl (fun j u h => cells_new1 wr _ _ _ rfl j u h) (by intro u hu; simp at hu; rcases hu with rfl | rfl | rfl <;> rfl) (by decide) (by unfold maxLen; omega) (by omega) (by have := hbel.size; simp; omega) (wr.heap.size + 1) (by simp) ?_; intro g cap w1 hown1 hgrow hat hlt2))
            all_goals
              have hbl4 : Below w.heap.size w w1 := ((hbel.alloc hbel.size _).drew).grown hgrow (by have := hbel.size; simp; omega) (own_lt hown)
              rw [← hsg.out] at hown1
              clear hgrow hown hbel X0 X1 X2
              go_wp2
              go_roundw
              case rel => exact ⟨k + 1, by omega, by go_num, _, _, hsome, by omega, by go_num, by unfold Hid; rw [List.length_append, hrl.out]; rfl, by rw [List.length_append]; exact hown1, hbl4⟩
              case measure => simp [intOf]; omega
      · have hkc : k = s[5].toNat := by omega
        have hok := parseK_ok t 6 k rs p hpk.out
        obtain ⟨_, a1, b1, cap1, hv, r1, r2, r3, _, _⟩ := SegsAt_of_own hown
        have hrl2 := hrl.out
        have HC2 := HC.out
        have HP := refPack_any wr V E a1 b1 0 cap1 rs r1 r2 hok (fun h => (r3 h).1) (by omega)
        rw [HV.out, HE.out] at HP
        rw [hv] at hown
        subst hv
        clear hrl2 HC2 r1 r2 r3 hok
        have HPK : Hid (parseK t 6 s[5].toNat = some (rs, p)) := by rw [← hkc]; exact hpk
        have hltn : ¬ (k : Int) < (s[5].toNat : Int) := by omega
        have hb2 : ∀ w3, Below wr.heap.size wr w3 → Below w.heap.size w w3 := fun w3 h => hbel.trans (h.mono hbel.size)
        by_cases heq : packM V E rs = (t, 0)
        · have hU := HU2.out rs p HPK.out heq
          have HUU : Hid (unpackR t = some (V, E, rs)) := hU
          rw [← HV.out, ← HE.out, heq] at HP
          dsimp only at HP
          rw [HT.out, mk_list, HV.out, HE.out] at HP
          have HVO : Hid (V = (s[2].toNat : Int) * (256 : Int) + (s[3].toNat : Int) ∧ E = (s[4].toNat : Int)) := ⟨HV.out, HE.out⟩
          clear hU heq HU1 HU2 HU3 HPK hpk hkc
          go_wp2_with (go_at_call 97; refine HP.mono ?_; rintro en w3 ⟨rfl, hb3⟩)
          refine bodyPost_ret (results_tmp4 rfl _ _ _) rfl ⟨fun h => ?_, fun v e rs' h => ?_, hb2 _ hb3⟩
          · rw [HUU.out] at h; cases h
          · rw [HUU.out] at h
            simp only [Option.some.injEq, Prod.mk.injEq] at h
            obtain ⟨rfl, rfl, rfl⟩ := h
            refine ⟨a1, cap1, ?_, ownsRow_below hown hb3⟩
            rw [HVO.out.1, HVO.out.2]; rfl
        · have hU := HU3.out rs p HPK.out heq
          have HUU : Hid (unpackR t = none) := hU
          have hne2 : (packM V E rs).2 = 0 → ¬ (mk (packM V E rs).1).toList = s.toList := by
            intro h0 h1
            apply heq
            refine Prod.ext ?_ h0
            have h2 : mk (packM V E rs).1 = s := ba_ext h1
            rw [HT.out, ← h2, mk_data]
          rw [← HV.out, ← HE.out] at HP
          obtain ⟨q1, hq1⟩ : ∃ r, r = mk (packM V E rs).1 := ⟨_, rfl⟩
          obtain ⟨q2, hq2⟩ : ∃ r, r = (packM V E rs).2 := ⟨_, rfl⟩
          rw [← hq1, ← hq2] at HP hne2
          rw [HV.out, HE.out] at HP
          clear hq1 hq2 hU heq HU1 HU2 HU3 HPK hpk hkc
          by_cases h0 : q2 = 0
          · have hn := hne2 h0
            subst h0
            have hn' : (q1.toList == s.toList) = false := by simpa using hn
            clear hne2
            go_wp2_with (go_at_call 97; refine HP.mono ?_; rintro en w3 ⟨rfl, hb3⟩)
            refine bodyPost_ret (results_tmp4 rfl _ _ _) rfl ⟨fun _ => rfl, fun v e rs' h => ?_, hb2 _ hb3⟩
            rw [HUU.out] at h; cases h
          · have h0' : (q2 == 0) = false := by simpa using h0
            clear hne2
            go_wp2_with (go_at_call 97; refine HP.mono ?_; rintro en w3 ⟨rfl, hb3⟩)
            refine bodyPost_ret (results_tmp4 rfl _ _ _) rfl ⟨fun _ => rfl, fun v e rs' h => ?_, hb2 _ hb3⟩
            rw [HUU.out] at h; cases h
end Go.Proofs.YtcokahccbjdeaaaDoor

namespace Go.Proofs.YtcokahccbjdeaaaDoor

theorem byteOf_toNat (n : Int) (h0 : 0 ≤ n) (h1 : n < 256) : ((byteOf n).toNat : Int) = n := by
  unfold byteOf
  rw [UInt8.toNat_ofNat']
  omega

structure Seg.small (s : Seg) : Prop where
  a0 : 0 ≤ s.addr
  a1 : s.addr < 128
  z0 : 0 ≤ s.size
  z1 : s.size ≤ 128
  d1 : s.data.size ≤ 128

theorem parse_one (A B : List UInt8) (s : Seg) :
    (A ++ (runBytes s ++ B)).getD A.length 0 = byteOf s.addr ∧ (A ++ (runBytes s ++ B)).getD (A.length + 1) 0 = byteOf s.size ∧ (A ++ (runBytes s ++ B)).getD (A.length + 2) 0 = byteOf s.data.size ∧
      ((A ++ (runBytes s ++ B)).drop (A.length + 3)).take s.data.size = s.data.data.toList ∧ A.length + 3 + s.data.size ≤ (A ++ (runBytes s ++ B)).length := by
  have hl : s.data.data.toList.length = s.data.size := rfl
  refine ⟨?_, ?_, ?_, ?_, ?_⟩
  · simp [List.getD_eq_getElem?_getD, runBytes]
  · simp [List.getD_eq_getElem?_getD, runBytes]
  · simp [List.getD_eq_getElem?_getD, runBytes]
  · rw [← List.drop_drop, List.drop_left]
    simp only [runBytes, List.cons_append, List.nil_append, List.drop_succ_cons, List.drop_zero]
    rw [List.take_append_of_le_length (by omega), List.take_of_length_le (by omega)]
  · simp only [List.length_append, runBytes, List.length_cons, List.length_nil, hl]; omega

theorem parse_text (pre post : List UInt8) (R : List Seg) (hR : ∀ s ∈ R, s.small) : ∀ k, k ≤ R.length → parseK (pre ++ (R.flatMap runBytes ++ post)) pre.length k = some (R.take k, pre.length + ((R.take k).flatMap runBytes).length) := by
  intro k
  induction k with
  | zero => intro _; simp [parseK]
  | succ k ih =>
    intro hk
    have hlt : k < R.length := by omega
    have hs := hR R[k] (List.getElem_mem hlt)
    have hsplit : pre ++ (R.flatMap runBytes ++ post) = (pre ++ (R.take k).flatMap runBytes) ++ (runBytes R[k] ++ ((R.drop (k + 1)).flatMap runBytes ++ post)) := by
      have e : R = R.take k ++ (R[k] :: R.drop (k + 1)) := by rw [List.getElem_cons_drop, List.take_append_drop]
      have e2 : R.flatMap runBytes = (R.take k).flatMap runBytes ++ (runBytes R[k] ++ (R.drop (k + 1)).flatMap runBytes) := by
        conv => lhs; rw [e]
        rw [List.flatMap_append, List.flatMap_cons]
      rw [e2]
      simp only [List.append_assoc]
    obtain ⟨p1, p2, p3, p4, p5⟩ := parse_one (pre ++ (R.take k).flatMap runBytes) ((R.drop (k + 1)).flatMap runBytes ++ post) R[k]
    rw [← hsplit] at p1 p2 p3 p4 p5
    have hA : (pre ++ (R.take k).flatMap runBytes).length = pre.length + ((R.take k).flatMap runBytes).length := by simp
    rw [hA] at p1 p2 p3 p4 p5
    have hn : (byteOf (R[k].data.size : Int)).toNat = R[k].data.size := by
      have := byteOf_toNat (R[k].data.size : Int) (by omega) (by have := hs.d1; omega)
      omega
    simp only [parseK, ih (by omega), p1, p2, p3, hn, p4]
    rw [if_neg (by omega), if_neg (by omega)]
    have ha : ((byteOf R[k].addr).toNat : Int) = R[k].addr := byteOf_toNat _ hs.a0 (by have := hs.a1; omega)
    have hz : ((byteOf R[k].size).toNat : Int) = R[k].size := byteOf_toNat _ hs.z0 (by have := hs.z1; omega)
    rw [ha, hz, mk_list, List.take_succ_eq_append_getElem hlt, List.flatMap_append]
    congr 2
    have hl : R[k].data.data.toList.length = R[k].data.size := rfl
    simp only [List.flatMap_cons, List.flatMap_nil, List.append_nil, List.length_append, runBytes, List.length_cons, List.length_nil, hl]
    omega

theorem runsOf_small {m : Mem} (h : m.wf) : ∀ s ∈ runsOf m, s.small := by
  intro s hs
  have h2 := (runsOf_ok h s hs).2
  unfold runsOf runsTo at hs
  obtain ⟨a, ha, rfl⟩ := List.mem_map.1 hs
  have ha' : a < 128 := by have := (List.mem_filter.1 ha).1; simpa using this
  have h1 := endFrom_le m a (by omega)
  have h3 := endFrom_ge m a
  refine ⟨?_, ?_, ?_, ?_, h2⟩ <;> simp only [runOf] <;> omega

/-- what Pack asks of its arguments, where it is content -/
theorem pack_ok {v e : Int} {rs : List Seg} {l : List UInt8} (h : packM v e rs = (l, 0)) :
    ∃ m, 0 ≤ v ∧ v ≤ 65535 ∧ allFit rs = true ∧ layAll rs = some m ∧ 0 ≤ e ∧ e < 128 ∧ m.c e.toNat = true ∧ l = textOf v e (runsOf m) ∧ l.length ≤ 120 := by
  unfold packM at h
  split at h
  · simp at h
  · rename_i hv
    split at h
    · simp at h
    · rename_i haf
      split at h
      · simp at h
      · rename_i m hm
        split at h
        · simp at h
        · rename_i hc
          split at h
          · simp at h
          · rename_i hb
            simp only [Prod.mk.injEq, and_true] at h
            have hc' : 0 ≤ e ∧ e < 128 ∧ m.c e.toNat = true := Classical.not_not.1 hc
            exact ⟨m, by omega, by omega, by simpa using haf, hm, hc'.1, hc'.2.1, hc'.2.2, h.symm, by rw [← h]; omega⟩

theorem textOf_parts (v e : Int) (R : List Seg) : ∃ c0 c1, textOf v e R = [84, 66, byteOf (v / 256), byteOf (v % 256), byteOf e, byteOf R.length] ++ (R.flatMap runBytes ++ [c0, c1]) := by
  exact ⟨byteOf (checkOf (bodyOf v e R) / 256 : Nat), byteOf (checkOf (bodyOf v e R) % 256 : Nat), by unfold textOf bodyOf; rw [List.append_assoc]⟩

theorem dec_text (v e : Int) (R : List Seg) (hR : ∀ s ∈ R, s.small) (hl : R.length ≤ 128) (hv0 : 0 ≤ v) (hv1 : v ≤ 65535) (he0 : 0 ≤ e) (he1 : e < 128) (hlen : (textOf v e R).length ≤ 120) :
    decM (textOf v e R) = some (v, e, R) ∧ (textOf v e R).length ≥ 8 ∧ parseK (textOf v e R) 6 ((textOf v e R).getD 5 0).toNat = some (R, 6 + (R.flatMap runBytes).length) ∧
      (((textOf v e R).getD 2 0).toNat : Int) * (256 : Int) + ((textOf v e R).getD 3 0).toNat = v ∧ (((textOf v e R).getD 4 0).toNat : Int) = e := by
  obtain ⟨c0, c1, ht⟩ := textOf_parts v e R
  have hb2 : ((byteOf (v / 256)).toNat : Int) = v / 256 := byteOf_toNat _ (by omega) (by omega)
  have hb3 : ((byteOf (v % 256)).toNat : Int) = v % 256 := byteOf_toNat _ (by omega) (by omega)
  have hb4 : ((byteOf e).toNat : Int) = e := byteOf_toNat _ he0 (by omega)
  have hb5 : (byteOf (R.length : Int)).toNat = R.length := by
    have := byteOf_toNat (R.length : Int) (by omega) (by omega)
    omega
  have g2 : (textOf v e R).getD 2 0 = byteOf (v / 256) := by rw [ht]; rfl
  have g3 : (textOf v e R).getD 3 0 = byteOf (v % 256) := by rw [ht]; rfl
  have g4 : (textOf v e R).getD 4 0 = byteOf e := by rw [ht]; rfl
  have g5 : (textOf v e R).getD 5 0 = byteOf R.length := by rw [ht]; rfl
  have hlen2 : (textOf v e R).length = (R.flatMap runBytes).length + 8 := by rw [ht]; simp only [List.length_append, List.length_cons, List.length_nil]; omega
  have hmid : ((textOf v e R).drop 6).take ((textOf v e R).length - 8) = R.flatMap runBytes := by
    rw [hlen2, Nat.add_sub_cancel, ht]
    show (R.flatMap runBytes ++ [c0, c1]).take (R.flatMap runBytes).length = _
    rw [List.take_left]
  have hpd := parse_text [] [] R hR R.length (Nat.le_refl _)
  simp only [List.nil_append, List.append_nil, List.length_nil, Nat.zero_add, List.take_of_length_le (Nat.le_refl _)] at hpd
  have hpr := parse_text [84, 66, byteOf (v / 256), byteOf (v % 256), byteOf e, byteOf R.length] [c0, c1] R hR R.length (Nat.le_refl _)
  rw [← ht, List.take_of_length_le (Nat.le_refl _)] at hpr
  refine ⟨?_, by omega, ?_, ?_, ?_⟩
  · unfold decM
    rw [if_neg (by omega), hmid, g5, hb5, hpd, g2, g3, g4, hb2, hb3, hb4]
    simp only [Option.some.injEq, Prod.mk.injEq, and_true]
    omega
  · rw [g5, hb5]; exact hpr
  · rw [g2, g3, hb2, hb3]; omega
  · rw [g4, hb4]

theorem unpack_eq (l : List UInt8) : unpackM l = unpackR l := by
  have key : ∀ v e rs, packM v e rs = (l, 0) → ∃ m, (∀ s ∈ runsOf m, s.small) ∧ decM l = some (v, e, runsOf m) ∧ ¬ l.length < 6 ∧ (∃ p, parseK l 6 (l.getD 5 0).toNat = some (runsOf m, p)) ∧
      ((l.getD 2 0).toNat : Int) * (256 : Int) + (l.getD 3 0).toNat = v ∧ ((l.getD 4 0).toNat : Int) = e := by
    intro v e rs h
    obtain ⟨m, hv0, hv1, _, hm, he0, he1, _, hl, hlen⟩ := pack_ok h
    have hmw := layAll_wf hm
    obtain ⟨d1, d2, d3, d4, d5⟩ := dec_text v e (runsOf m) (runsOf_small hmw) (runsTo_length m 128) hv0 hv1 he0 he1 (by rw [← hl]; exact hlen)
    rw [← hl] at d1 d2 d3 d4 d5
    exact ⟨m, runsOf_small hmw, d1, by omega, ⟨_, d3⟩, d4, d5⟩
  unfold unpackM unpackR
  cases hd : decM l with
  | none =>
    dsimp only
    split
    · rfl
    · split
      · rfl
      · rename_i rs p hp
        split
        · rename_i hpk
          obtain ⟨m, _, h1, _⟩ := key _ _ _ hpk
          rw [hd] at h1; cases h1
        · rfl
  | some q =>
    obtain ⟨v, e, rs⟩ := q
    dsimp only
    by_cases hpk : packM v e rs = (l, 0)
    · obtain ⟨m, _, h1, h2, ⟨p, h3⟩, h4, h5⟩ := key _ _ _ hpk
      rw [hd] at h1
      simp only [Option.some.injEq, Prod.mk.injEq, true_and] at h1
      rw [if_pos hpk, if_neg h2, h3, h4, h5, ← h1]
      dsimp only
      rw [if_pos hpk]
    · rw [if_neg hpk]
      split
      · rfl
      · split
        · rfl
        · rename_i rs' p hp
          split
          · rename_i hpk'
            obtain ⟨m, _, h1, _, ⟨p', h3⟩, _, _⟩ := key _ _ _ hpk'
            rw [hp] at h3
            have hrs : rs' = runsOf m := congrArg Prod.fst (Option.some.inj h3)
            rw [hd] at h1
            simp only [Option.some.injEq, Prod.mk.injEq] at h1
            obtain ⟨e1, e2, e3⟩ := h1
            rw [hrs, ← e1, ← e2, ← e3] at hpk'
            exact absurd hpk' hpk
          · rfl
end Go.Proofs.YtcokahccbjdeaaaDoor
