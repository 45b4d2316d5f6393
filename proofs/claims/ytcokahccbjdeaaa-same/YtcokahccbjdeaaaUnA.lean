import Derived.Test.YtcokahccbjdeaaaLawC
import Derived.Deep.AppendLies
import Derived.Deep.RegionHeld3
namespace Go.Proofs.Ytcokahccbjdeaaa
open Go.RowKit

/-- k runs read from byte 'at0' on: the runs, and where they end -/
def parseK (t : List UInt8) (at0 : Nat) : Nat → Option (List Seg × Nat)
  | 0 => some ([], at0)
  | k + 1 => match parseK t at0 k with
    | none => none
    | some (rs, p) => if t.length < p + 3 then none else if t.length < p + 3 + (t.getD (p + 2) 0).toNat then none else
      some (rs ++ [⟨((t.getD p 0).toNat : Int), ((t.getD (p + 1) 0).toNat : Int), mk ((t.drop (p + 3)).take (t.getD (p + 2) 0).toNat)⟩], p + 3 + (t.getD (p + 2) 0).toNat)

theorem parseK_none (t : List UInt8) (at0 k n : Nat) (h : parseK t at0 k = none) (hk : k ≤ n) : parseK t at0 n = none := by
  induction n with
  | zero => have : k = 0 := by omega
            subst this; exact h
  | succ n ih =>
    by_cases e : k = n + 1
    · subst e; exact h
    · simp [parseK, ih (by omega)]
theorem parseK_len (t : List UInt8) (at0 k : Nat) : ∀ {rs : List Seg} {p : Nat}, parseK t at0 k = some (rs, p) → rs.length = k ∧ (p ≤ t.length ∨ k = 0) := by
  induction k with
  | zero => intro rs p h; simp [parseK] at h; simp [← h.1]
  | succ k ih =>
    intro rs p h
    simp only [parseK] at h
    split at h
    · cases h
    · rename_i rs' p' h'
      split at h
      · cases h
      · split at h
        · cases h
        · simp at h
          obtain ⟨rfl, rfl⟩ := h
          have := ih h'
          refine ⟨by rw [List.length_append, this.1]; rfl, Or.inl (by simp only [List.getD_eq_getElem?_getD] at *; omega)⟩

theorem extract_mk (s : ByteArray) (a b : Nat) : s.extract a b = mk ((s.data.toList.drop a).take (b - a)) := by
  apply ByteArray.ext
  rw [ByteArray.data_extract]
  apply Array.ext'
  rw [Array.toList_extract]
  simp [mk, List.extract_eq_take_drop]

theorem run_idx (wx : World) (s : ByteArray) (i : Nat) (h : i < s.size) (I : Int) (hI : I = i) : (Instr.index 9 (.string s) (.int .i64 I)).run Try.prog wx = .ok (.int .u8 (s[i].toNat : Int)) wx := by
  subst hI
  rw [run_index_string _ 9 s .i64 _ Try.underlying9, dif_pos (by omega)]
  rfl
theorem run_sub (wx : World) (s : ByteArray) (a b : Nat) (h1 : a ≤ b) (h2 : b ≤ s.size) (A B : Int) (hA : A = a) (hB : B = b) : (Instr.slice 9 (.string s) (some (.int .i64 A)) (some (.int .i64 B)) none).run Try.prog wx = .ok (.string (s.extract a b)) wx := by
  subst hA hB
  have := run_slice_string (P := Try.prog) wx 9 s .i64 .i64 a b Try.underlying9 (by omega) (by omega) (by omega)
  simpa using this

set_option maxRecDepth 100000 in
set_option maxHeartbeats 4000000 in
theorem decodeRuns_any (w : World) (s : ByteArray) (count : Nat) (hs : s.size ≤ 1073741824) (hc : count ≤ 255) :
    Calls Try.prog 67 #[.string s, .int .i64 count] w fun e w' => (∀ rs p, parseK s.data.toList 0 count = some (rs, p) → ∃ v, e = .returned (.tuple #[v, .bool true]) ∧ w'.ownsRow w.heap.size 43 3 v rs.length (segCells rs)) ∧ (parseK s.data.toList 0 count = none → e = .returned (.tuple #[.slice none 0 0, .bool false])) ∧ Below w.heap.size w w' := by
  obtain ⟨i0, hi, hz0, hz1, hz2⟩ := info_parts Try.info43
  obtain ⟨t, ht⟩ : ∃ t, t = s.data.toList := ⟨_, rfl⟩
  have HT : Hid (t = s.data.toList) := ht
  have htl : t.length = s.size := by rw [ht]; rfl
  rw [← ht]
  clear ht
  go_enter Try.func67, Try.ntmps67
  go_wp2
  go_loopw [4, 5, 6, 7, 8, 9, 10] (fun _ _ v a i _ _ wr => ∃ k : Nat, k ≤ count ∧ i = .int .i64 k ∧ ∃ (rs : List Seg) (p : Nat), Hid (parseK t 0 k = some (rs, p)) ∧ p ≤ s.size ∧ a = .int .i64 p ∧ Hid (rs.length = k) ∧ wr.ownsRow w.heap.size 43 3 v rs.length (segCells rs) ∧ Below w.heap.size w wr) (fun _ _ _ _ i _ _ _ => count - (intOf i).toNat)
  case atStart => exact ⟨0, by omega, rfl, [], 0, rfl, by omega, rfl, rfl, World.ownsRow_nil _ _ _ _, Below.refl _ _⟩
  case round =>
    obtain ⟨k, hk, rfl, rs, p, hpk, hp, rfl, hrl, hown, hbel⟩ := hrel
    by_cases hlt : k < count
    · have hltI : (k : Int) < count := by omega
      by_cases h1 : s.size < p + 3
      · have h1' : (s.size : Int) < (p : Int) + 3 := by omega
        have hnone : Hid (parseK t 0 count = none) := by
          apply parseK_none t 0 (k + 1) count _ (by omega)
          simp only [parseK, hpk.out]; rw [if_pos (by omega)]
        go_wp2
        go_ret2
        refine ⟨fun rs p h => ?_, fun _ => rfl, hbel⟩
        rw [hnone.out] at h; cases h
      · have h1' : (p : Int) + 3 ≤ s.size := by omega
        have hb2 : p + 2 < s.size := by omega
        have hg2 : Hid (t.getD (p + 2) 0 = s[p + 2]) := by unfold Hid; rw [HT.out]; exact ba_getD s _ hb2
        have hb2' : (s[p + 2].toNat : Int) < 256 := by have := s[p + 2].toNat_lt; omega
        by_cases h2 : s.size < p + 3 + s[p + 2].toNat
        · have h2' : (s.size : Int) < (p : Int) + 3 + s[p + 2].toNat := by omega
          have hnone : Hid (parseK t 0 count = none) := by
            apply parseK_none t 0 (k + 1) count _ (by omega)
            simp only [parseK, hpk.out]; rw [if_neg (by omega), hg2.out, if_pos (by omega)]
          clear HT hg2
          go_wp2
          go_ret2
          refine ⟨fun rs p h => ?_, fun _ => rfl, hbel⟩
          rw [hnone.out] at h; cases h
        · have h2' : (p : Int) + 3 + s[p + 2].toNat ≤ s.size := by omega
          have hb0 : p < s.size := by omega
          have hb1 : p + 1 < s.size := by omega
          have hb0' : (s[p].toNat : Int) < 256 := by have := s[p].toNat_lt; omega
          have hb1' : (s[p + 1].toNat : Int) < 256 := by have := s[p + 1].toNat_lt; omega
          have hsome : Hid (parseK t 0 (k + 1) = some (rs ++ [⟨(s[p].toNat : Int), (s[p + 1].toNat : Int), s.extract (p + 3) (p + 3 + s[p + 2].toNat)⟩], p + 3 + s[p + 2].toNat)) := by
            unfold Hid
            simp only [parseK, hpk.out]
            rw [if_neg (by omega), hg2.out, if_neg (by omega), extract_mk, HT.out, ba_getD s p hb0, ba_getD s (p + 1) hb1, Nat.add_sub_cancel_left]
          have hsg : Hid (segCells (rs ++ [⟨(s[p].toNat : Int), (s[p + 1].toNat : Int), s.extract (p + 3) (p + 3 + s[p + 2].toNat)⟩]) = segCells rs ++ [.int .i64 (s[p].toNat : Int), .int .i64 (s[p + 1].toNat : Int), .string (s.extract (p + 3) (p + 3 + s[p + 2].toNat))]) := by
            unfold Hid; rw [segCells_append]; rfl
          have hpI : (p : Int) < s.size := by omega
          have hpI1 : (p : Int) + 1 < s.size := by omega
          have hl1 : rs.length + 1 ≤ 255 := by have := hrl.out; omega
          have X0 := fun wx => run_idx wx s p hb0 (p : Int) rfl
          have X1 := fun wx => run_idx wx s (p + 1) hb1 ((p : Int) + 1) (by omega)
          have X2 := fun wx => run_sub wx s (p + 3) (p + 3 + s[p + 2].toNat) (by omega) (by omega) ((p : Int) + 3) ((p : Int) + 3 + s[p + 2].toNat) (by omega) (by omega)
          clear hg2 hpk HT h1 h2
          go_wp2
          have hp10 : (0 : Int) ≤ (p : Int) + 1 := by omega
          have hp30 : (0 : Int) ≤ (p : Int) + 3 := by omega
          have hp31 : (p : Int) + 3 ≤ (p : Int) + 3 + s[p + 2].toNat := by omega
          have hwr : IntKind.i64.wrap ((p : Int) + 1) = (p : Int) + 1 := by rw [IntKind.wrap_i64]; omega
          have hw0 : IntKind.i64.wrap (s[p].toNat : Int) = (s[p].toNat : Int) := by rw [IntKind.wrap_i64]; omega
          have hw1 : IntKind.i64.wrap (s[p + 1].toNat : Int) = (s[p + 1].toNat : Int) := by rw [IntKind.wrap_i64]; omega
          go_region_held3 (fun _ => True) (trivial)
            ((refine step_append_lies _ (by rfl) _ _ 23 (by rfl) w.heap.size 43 i0 _ 3 32 Try.underlying23 hi hz0 hz1 hz2 rfl (by decide) _ _ _ (by rfl) (World.ownsRow.drew (hown.alloc _)) ⟨wr.heap.size, 0, none⟩ 1 1 [.int .i64 (s[p].toNat : Int), .int .i64 (s[p + 1].toNat : Int), .string (s.extract (p + 3) (p + 3 + s[p + 2].toNat))] (by rfl) rfl (fun j u h => cells_new1 wr _ _ _ rfl j u h) (by intro u hu; simp at hu; rcases hu with rfl | rfl | rfl <;> rfl) (by decide) (by unfold maxLen; omega) (by omega) (by have := hbel.size; simp; omega) (wr.heap.size + 1) (by simp) ?_; intro g cap w1 hown1 hgrow hat hlt2))
          all_goals
            have hbl4 : Below w.heap.size w w1 := ((hbel.alloc hbel.size _).drew).grown hgrow (by have := hbel.size; simp; omega) (own_lt hown)
            rw [← hsg.out] at hown1
            clear hgrow hown hbel X0 X1 X2
            go_wp2
            go_roundw
            case rel => exact ⟨k + 1, by omega, by go_num, _, _, hsome, by omega, by go_num, by unfold Hid; rw [List.length_append, hrl.out]; rfl, by rw [List.length_append]; exact hown1, hbl4⟩
            case measure => simp [intOf]; omega
    · have hkc : k = count := by omega
      subst hkc
      go_wp2
      go_ret2
      refine ⟨fun rs' p' h => ?_, fun h => ?_, hbel⟩
      · rw [hpk.out] at h
        obtain ⟨rfl, rfl⟩ := Prod.mk.inj (Option.some.inj h)
        exact ⟨_, rfl, hown⟩
      · rw [hpk.out] at h; cases h
end Go.Proofs.Ytcokahccbjdeaaa
