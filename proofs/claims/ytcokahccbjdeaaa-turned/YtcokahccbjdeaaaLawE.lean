import Derived.Test.YtcokahccbjdeaaaUnD
namespace Go.Proofs.Ytcokahccbjdeaaa
open Go.RowKit

set_option maxRecDepth 100000 in
theorem twinUnpack_none (w : World) (s : ByteArray) (hs : s.size < 4611686018427387904) (h : unpackM s.data.toList = none) :
    Calls Try.prog 17 #[.string s] w fun e w' => e = .returned (.tuple #[.int .i64 0, .int .i64 0, .slice none 0 0, .int .i64 6]) ∧ Below w.heap.size w w' := by
  have HP := unpack_none w s hs h
  clear h
  go_enter Try.func17, Try.ntmps17
  go_wp2_with (go_at_call 50; refine HP.mono ?_; rintro en w2 ⟨rfl, hb2⟩)
  refine bodyPost_ret (results_tmp4 rfl _ _ _) rfl ⟨rfl, hb2⟩
set_option maxRecDepth 100000 in
theorem twinUnpack_some (w : World) (s : ByteArray) (v e : Int) (rs : List Seg) (h : unpackM s.data.toList = some (v, e, rs)) :
    Calls Try.prog 17 #[.string s] w fun en w' => ∃ (a : Option Addr) (cap : Nat), en = .returned (.tuple #[.int .i64 v, .int .i64 e, .slice a rs.length cap, .int .i64 0]) ∧ w'.ownsRow w.heap.size 43 3 (.slice a rs.length cap) rs.length (segCells rs) ∧ Below w.heap.size w w' := by
  have HP := unpack_some w s v e rs h
  clear h
  go_enter Try.func17, Try.ntmps17
  go_wp2_with (go_at_call 50; refine HP.mono ?_; rintro en w2 ⟨a, cap, rfl, hown, hb2⟩)
  exact bodyPost_ret (results_tmp4 rfl _ _ _) rfl ⟨a, cap, rfl, hown, hb2⟩

theorem set3m (A B : List Value) (n : Nat) (c0 c1 c2 x y z : Value) (h : A.length = n * 3) :
    (((A ++ (c0 :: c1 :: c2 :: B)).toArray.setIfInBounds (n * 3) x).setIfInBounds (n * 3 + 1) y).setIfInBounds (n * 3 + 2) z = (A ++ (x :: y :: z :: B)).toArray := by
  simp only [List.setIfInBounds_toArray]
  rw [List.set_append_right _ _ (by omega), List.set_append_right _ _ (by omega), List.set_append_right _ _ (by omega), h]
  simp [Nat.add_sub_cancel_left]
theorem three_more (l : List Value) (n : Nat) (h : l.length = (n + 1) * 3) : ∃ a b c r, l = a :: b :: c :: r ∧ r.length = n * 3 := by
  match l, h with
  | a :: b :: c :: r, h => exact ⟨a, b, c, r, rfl, by simp at h; omega⟩
  | [], h => simp at h
  | [_], h => simp at h; omega
  | [_, _], h => simp at h; omega

set_option maxRecDepth 100000 in
set_option maxHeartbeats 2000000 in
theorem marked_row (w : World) (g n cap : Nat) (cur : Array Value) (hg : w.heap[g]? = some (.cells cur 43 (0, 0))) (hc : cur.size = cap * 3) (hn : n ≤ cap) (hm : cap ≤ 9223372036854775807) (h0 : 0 < cap) :
    Calls Try.prog 20 #[.slice (some ⟨g, 0, none⟩) n cap] w fun e w' => e = .returned (.slice (some ⟨g, 0, none⟩) cap cap) ∧ w'.heap[g]? = some (.cells (segCells (List.replicate cap markSeg)).toArray 43 (0, 0)) ∧ Only (· = g) w w' := by
  have hmI : (cap : Int) ≤ 9223372036854775807 := by omega
  have hc0 : ¬ cap = 0 := by omega
  go_enter Try.func20, Try.ntmps20
  go_wp2
  go_loopw [4] (fun i wr => ∃ k : Nat, k ≤ cap ∧ i = .int .i64 k ∧ (∃ rest : List Value, rest.length = (cap - k) * 3 ∧ wr.heap[g]? = some (.cells (segCells (List.replicate k markSeg) ++ rest).toArray 43 (0, 0))) ∧ Only (· = g) w wr) (fun i _ => cap - (intOf i).toNat)
  case atStart => exact ⟨0, by omega, rfl, ⟨cur.toList, by simp [hc], by simpa [segCells] using hg⟩, Only.refl _ _⟩
  case round =>
    obtain ⟨k, hk, rfl, ⟨rest, hrl, hrow⟩, hon⟩ := hrel
    by_cases hlt : k < cap
    · obtain ⟨c0, c1, c2, r, rfl, hr⟩ := three_more rest (cap - k - 1) (by rw [hrl]; congr 1; omega)
      have hsl : (segCells (List.replicate k markSeg)).length = k * 3 := by rw [segCells_length]; simp
      have q0 : wr.cell? ⟨g, k * 3, none⟩ = some c0 := by
        rw [cell_of_heap hrow, List.getElem?_toArray, List.getElem?_append_right (by omega), hsl, Nat.sub_self]; rfl
      have q1 : wr.cell? ⟨g, k * 3 + 1, none⟩ = some c1 := by
        rw [cell_of_heap hrow, List.getElem?_toArray, List.getElem?_append_right (by omega), hsl, Nat.add_sub_cancel_left]; rfl
      have q2 : wr.cell? ⟨g, k * 3 + 2, none⟩ = some c2 := by
        rw [cell_of_heap hrow, List.getElem?_toArray, List.getElem?_append_right (by omega), hsl, Nat.add_sub_cancel_left]; rfl
      have fz : ∀ j, wr.frozen? ⟨g, j, none⟩ = false := fun j => free_of_heap hrow
      have HR : Hid (wr.heap[g]? = some (.cells (segCells (List.replicate k markSeg) ++ (c0 :: c1 :: c2 :: r)).toArray 43 (0, 0))) := hrow
      have hltI : (k : Int) < cap := by omega
      clear hrow
      go_wp2
      go_roundw
      case rel =>
        refine ⟨k + 1, by omega, by go_num, ⟨r, by rw [hr, show cap - k - 1 = cap - (k + 1) by omega], ?_⟩, ((hon.setCell (by exact rfl) _).setCell (by exact rfl) _).setCell (by exact rfl) _⟩
        rw [heap_setCell_at _ _ _ _ _ _ _ (heap_setCell_at _ _ _ _ _ _ _ (heap_setCell_at _ _ _ _ _ _ _ HR.out)), set3m _ _ _ _ _ _ _ _ _ hsl, List.replicate_succ', segCells_append, List.append_assoc]; rfl
      case measure => simp [intOf]; omega
    · have hkc : k = cap := by omega
      subst hkc
      go_wp2
      go_ret
      refine ⟨rfl, ?_, hon⟩
      have : rest = [] := List.length_eq_zero_iff.1 (by rw [hrl]; simp)
      rw [hrow, this, List.append_nil]

set_option maxRecDepth 100000 in
theorem marked_nil (w : World) : Calls Try.prog 20 #[.slice none 0 0] w fun e w' => e = .returned (.slice none 0 0) ∧ w' = w := by
  go_enter Try.func20, Try.ntmps20
  go_wp2
  refine wp_loop_rounds 1 ?_
  rw [rounds_succ]
  go_wp2
  go_ret
  exact ⟨rfl, rfl⟩
set_option maxRecDepth 100000 in
theorem still_nil (w : World) : Calls Try.prog 21 #[.slice none 0 0] w fun e w' => e = .returned (.bool true) ∧ w' = w := by
  go_enter Try.func21, Try.ntmps21
  go_wp2
  refine wp_loop_rounds 1 ?_
  rw [rounds_succ]
  go_wp2
  go_ret
  exact ⟨rfl, rfl⟩
set_option maxRecDepth 100000 in
set_option maxHeartbeats 2000000 in
theorem still_row (w : World) (g cap : Nat) (hg : w.heap[g]? = some (.cells (segCells (List.replicate cap markSeg)).toArray 43 (0, 0))) (hm : cap ≤ 9223372036854775807) :
    Calls Try.prog 21 #[.slice (some ⟨g, 0, none⟩) cap cap] w fun e w' => e = .returned (.bool true) ∧ Below w.heap.size w w' := by
  have hmI : (cap : Int) ≤ 9223372036854775807 := by omega
  have hgl : g < w.heap.size := (Array.getElem?_eq_some_iff.1 hg).1
  have hs2 : SegsAt w g 0 (List.replicate cap markSeg) := segs_of_row hg ⟨[], by simp⟩
  have hSM := fun wx => sameSegment_any wx markSeg
  simp only [Seg.v, markSeg] at hSM
  go_enter Try.func21, Try.ntmps21
  go_wp2
  go_loopw [3, 4] (fun i _ wr => ∃ k : Nat, k ≤ cap ∧ i = .int .i64 k ∧ Below w.heap.size w wr) (fun i _ _ => cap - (intOf i).toNat)
  case atStart => exact ⟨0, by omega, rfl, Below.refl _ _⟩
  case round =>
    obtain ⟨k, hk, rfl, hbel⟩ := hrel
    by_cases hlt : k < cap
    · obtain ⟨m1, m2, m3⟩ := hs2 k (by simpa using hlt)
      simp only [List.getElem_replicate, markSeg, Nat.zero_add] at m1 m2 m3
      have f1 := (hbel.cell (p := ⟨g, k * 3, none⟩) hgl).trans m1
      have f2 := (hbel.cell (p := ⟨g, k * 3 + 1, none⟩) hgl).trans m2
      have f3 := (hbel.cell (p := ⟨g, k * 3 + 2, none⟩) hgl).trans m3
      have hltI : (k : Int) < cap := by omega
      clear m1 m2 m3
      go_wp2_with (go_at_call 44; refine (hSM _).mono ?_; rintro en w3 ⟨rfl, rfl⟩)
      go_roundw
      case rel => exact ⟨k + 1, by omega, by go_num, (hbel.alloc hbel.size _).alloc (by have := hbel.size; simp; omega) _⟩
      case measure => simp [intOf]; omega
    · go_wp2
      go_ret
      exact ⟨rfl, hbel⟩
end Go.Proofs.Ytcokahccbjdeaaa
